/- Outlines: ReadOutline. -/
import Derived.Test.YticdapkljbillaaDoorOlC
import Derived.WalkKit
import Derived.Lib.Hide
import Derived.Outline
import Derived.Below
import Derived.Deep.DeepCutAuto
import Derived.Deep.CutBlock
import Derived.Deep.LoopGhost
import Derived.Deep.QuietTactic
import Derived.BigQuiet
import Derived.BigRegion
import Derived.Lib.SmallJoins
namespace Go.Proofs.YticdapkljbillaaDoor
open Go.RowKit

theorem infoLn : (Tryd.prog.info? 28).map (fun i => (i.zero, i.size, i.bytes)) = some (some (.agg #[.int .i64 0, .string ⟨#[]⟩]), 2, 24) := by kernel_rfl
def strLen : Value → Nat
  | .string s => s.size
  | _ => 0
/-- The first j lines. -/
def preLn (s : ByteArray) (j : Nat) : List Ln := ((linesL s.data.toList).1.take j).map lnOf
def nLn (s : ByteArray) : Nat := (linesL s.data.toList).1.length
theorem nLn_le (s : ByteArray) : nLn s ≤ s.size := by rw [sizeL]; exact lines_len _
theorem preLn_len {s : ByteArray} {j : Nat} (h : j ≤ nLn s) : (preLn s j).length = j := by
  unfold preLn
  rw [List.length_map, List.length_take]
  exact Nat.min_eq_left h
theorem preLn_all (s : ByteArray) : preLn s (nLn s) = lnsOf s := by
  unfold preLn nLn lnsOf
  rw [List.take_length]
theorem lnsOf_len (s : ByteArray) : (lnsOf s).length = nLn s := by simp [lnsOf, nLn]
theorem preLn_next {s : ByteArray} {j : Nat} (h : j < nLn s) : preLn s (j + 1) = preLn s j ++ [lnOf ((linesL s.data.toList).1[j]'h)] := by
  unfold preLn
  rw [List.take_succ_eq_append_getElem h, List.map_append]
  rfl

/-- At the head of each round. -/
structure PRow (s : ByteArray) (w : World) (j d : Nat) (r : ByteArray) (v : Value) (wx : World) : Prop where
  le : r.size ≤ s.size
  at_ : LnAt (linesL s.data.toList).1 j d
  rest : linesL r.data.toList = ((linesL s.data.toList).1.drop j, (linesL s.data.toList).2)
  own : wx.ownsRow w.heap.size 28 2 v j ((preLn s j).flatMap Ln.cells)
  bel : Below w.heap.size w wx
theorem PRow.fin {s : ByteArray} {w : World} {j d : Nat} {r : ByteArray} {v : Value} {wx : World} (h : PRow s w j d r v wx) (hr : r.size = 0) : synOk s = true ∧ j = nLn s := by
  have e : r.data.toList = [] := List.eq_nil_of_length_eq_zero (by rw [← sizeL]; exact hr)
  have h1 := h.rest
  rw [e] at h1
  have h2 : (linesL s.data.toList).1.drop j = [] := (congrArg Prod.fst h1).symm
  have h3 : (linesL s.data.toList).2 = [] := (congrArg Prod.snd h1).symm
  have h4 : j = (linesL s.data.toList).1.length := Nat.le_antisymm h.at_.le (List.drop_eq_nil_iff.1 h2)
  refine ⟨?_, h4⟩
  unfold synOk
  rw [h.at_.end_ h4, h3]
  rfl
theorem PRow.miss {s : ByteArray} {w : World} {j d : Nat} {r : ByteArray} {v : Value} {wx : World} (h : PRow s w j d r v wx) (hr : r.size ≠ 0) {a b : ByteArray} (hc : CutTen r a b false) : synOk s = false ∧ a.size ≤ r.size := by
  rcases cut_ten r.data.toList with ⟨h1, h2⟩ | ⟨a', b', h1, _⟩
  · have h3 := h.rest
    rw [h2] at h3
    have h4 : (linesL s.data.toList).2 = r.data.toList := (congrArg Prod.snd h3).symm
    have hne : r.data.toList ≠ [] := fun e => hr (by rw [sizeL, e]; rfl)
    refine ⟨?_, ?_⟩
    · unfold synOk
      rw [h4]
      cases hl : r.data.toList with
      | nil => exact absurd hl hne
      | cons c l => simp
    · have h5 := hc.eq
      rw [h1] at h5
      have h6 : r.data.toList = a.data.toList := congrArg Prod.fst h5
      rw [sizeL, sizeL r, h6]
      exact Nat.le_refl _
  · rw [hc.eq] at h1
    exact absurd (congrArg (fun p => p.2.2) h1) (by simp)
theorem PRow.hit {s : ByteArray} {w : World} {j d : Nat} {r : ByteArray} {v : Value} {wx : World} (h : PRow s w j d r v wx) {a b : ByteArray} (hc : CutTen r a b true) :
    ∃ hj : j < nLn s, (linesL s.data.toList).1[j]'hj = a.data.toList ∧ linesL b.data.toList = ((linesL s.data.toList).1.drop (j + 1), (linesL s.data.toList).2) ∧ b.size < r.size ∧ a.size ≤ r.size := by
  rcases cut_ten r.data.toList with ⟨h1, _⟩ | ⟨a', b', h1, h2, h3, h4⟩
  · rw [hc.eq] at h1
    exact absurd (congrArg (fun p => p.2.2) h1) (by simp)
  · rw [hc.eq] at h1
    have ea : a.data.toList = a' := congrArg Prod.fst h1
    have eb : b.data.toList = b' := congrArg (fun p => p.2.1) h1
    have h5 := h.rest
    rw [h2] at h5
    have h6 : a' :: (linesL b').1 = (linesL s.data.toList).1.drop j := congrArg Prod.fst h5
    have h7 : (linesL b').2 = (linesL s.data.toList).2 := by have := congrArg (fun p => p.2) h5; exact this
    have hj : j < nLn s := by
      have := congrArg List.length h6
      rw [List.length_cons, List.length_drop] at this
      unfold nLn; omega
    rw [List.drop_eq_getElem_cons hj] at h6
    injection h6 with h8 h9
    refine ⟨hj, by rw [ea]; exact h8.symm, ?_, ?_, ?_⟩
    · rw [eb, ← h9, ← h7]
    · rw [sizeL, sizeL r, eb]; exact h3
    · rw [sizeL, sizeL r, ea, h4]; simp
/-- What is handed back. -/
def GivesLns (s : ByteArray) (w : World) (e : Ending) (w' : World) : Prop :=
  ∃ v, e = .returned (.tuple #[v, .int .i64 (outCode s)]) ∧ w'.ownsRow w.heap.size 28 2 v (outLns s).length ((outLns s).flatMap Ln.cells) ∧ Below w.heap.size w w'
theorem gives_none {s : ByteArray} {w w' : World} {c : Int} (h : outCode s = c ∧ outLns s = []) (hb : Below w.heap.size w w') : GivesLns s w (.returned (.tuple #[.slice none 0 0, .int .i64 c])) w' := by
  refine ⟨_, by rw [h.1], ?_, hb⟩
  rw [h.2]
  exact World.ownsRow_nil _ _ _ _
/-- A row in which the texts are asked. -/
structure QRow (s : ByteArray) (w : World) (v : Value) (k : Nat) (wx : World) : Prop where
  le : k ≤ nLn s
  bad : firstBad (lnsOf s) = firstBad ((lnsOf s).drop k)
  own : wx.ownsRow w.heap.size 28 2 v (nLn s) ((lnsOf s).flatMap Ln.cells)
  bel : Below w.heap.size w wx
theorem own_keepB {w w' : World} {B base n size : Nat} {e : TypeId} {v : Value} {xs : List Value} (h : w.ownsRow base e size v n xs) (hb : Below B w w') (hB : w.heap.size ≤ B) : w'.ownsRow base e size v n xs := by
  refine ⟨h.1, ?_⟩
  rcases h.2 with h0 | ⟨g, cap, cur, e1, hg, hc, r⟩
  · exact .inl h0
  · exact .inr ⟨g, cap, cur, e1, hg, (hb.block g (by have := (h.lt g (by rw [e1]; rfl)).2; omega)).trans hc, r⟩
theorem addr_plus (b off j : Nat) : (⟨b, off, none⟩ : Addr).add j = ⟨b, off + j, none⟩ := by simp [Addr.add]
theorem ln_news (w : World) (x : Ln) (T : TypeId) : ∀ q u, x.cells[q]? = some u → (w.alloc (.cells #[.int .i64 x.depth, .string x.text] T)).cell? ((⟨w.heap.size, 0, none⟩ : Addr).add q) = some u := by
  intro q u hq
  have h := heap_alloc_new w (.cells #[.int .i64 x.depth, .string x.text] T)
  rw [addr_plus, Nat.zero_add, cell_of_row _ _ q _ _ (0, 0) h]
  rw [List.getElem?_toArray]
  exact hq
theorem ln_one (x : Ln) : ∀ u ∈ x.cells, u.oneCell' = true := by
  intro u hu
  simp only [Ln.cells, List.mem_cons, List.not_mem_nil, or_false] at hu
  rcases hu with rfl | rfl <;> rfl
theorem own_slice {w : World} {base n size : Nat} {e : TypeId} {v : Value} {xs : List Value} (h : w.ownsRow base e size v n xs) : ∃ A c, v = .slice A n c ∧ (0 < n → ∃ g, A = some ⟨g, 0, none⟩ ∧ n ≤ c ∧ c ≤ maxLen) := by
  rcases h.2 with ⟨h0, h1⟩ | ⟨g, cap, cur, e1, hg, hc, h2, h3, r⟩
  · subst h1
    exact ⟨none, 0, h0, fun h => absurd h (Nat.lt_irrefl _)⟩
  · exact ⟨_, cap, e1, fun _ => ⟨g, rfl, h2, h3⟩⟩

set_option maxRecDepth 100000 in
set_option maxHeartbeats 8000000 in
theorem readOutline_any (s : ByteArray) (w : World) (hs : s.size ≤ 9223372036854775807) : Calls Tryd.prog 5 #[.string s] w (GivesLns s w) := by
  by_cases hbig : 400000 < s.size
  · have H := Lib.hid (gives_none (w := w) (out_large hbig) (Below.refl _ _))
    have p1 : (400000 : Int) < s.size := by omega
    clear hbig
    go_enter Tryd.func5, Tryd.ntmps5
    go_wp2
    go_ret2
    exact H.out
  · have p1 : ¬ (400000 : Int) < s.size := by omega
    have hs4 : s.size ≤ 400000 := by omega
    obtain ⟨i0, hi, hz0, hz1, hz2⟩ := info_parts infoLn
    go_enter Tryd.func5, Tryd.ntmps5
    go_wp2_with fail
    go_loopw [0, 4, 5] (fun sv lv dv wx => ∃ (j d : Nat) (r : ByteArray), sv = .string r ∧ dv = .int .i64 d ∧ Hid (PRow s w j d r lv wx)) (fun sv _ _ _ => strLen sv)
    case atStart => exact ⟨0, 0, s, rfl, rfl, Lib.hid ⟨Nat.le_refl _, LnAt.zero _, rfl, World.ownsRow_nil _ _ _ _, Below.refl _ _⟩⟩
    case round =>
      obtain ⟨j, d, r, rfl, rfl, HR⟩ := hrel
      have hrs := HR.out.le
      by_cases hr : r.size = 0
      · have z1 : r.toList = [] := by rw [ByteArray.toList_eq]; exact List.eq_nil_of_length_eq_zero (by simpa using hr)
        have z2 : r.toList.isEmpty = true := by rw [z1]; rfl
        obtain ⟨f1, f2⟩ := HR.out.fin hr
        subst f2
        have hown := HR.out.own
        rw [preLn_all] at hown
        obtain ⟨A, c, rfl, hA⟩ := own_slice hown
        have HQ0 : Hid (QRow s w (.slice A (nLn s) c) 0 wr) := Lib.hid ⟨Nat.zero_le _, rfl, hown, HR.out.bel⟩
        have hnl := nLn_le s
        obtain ⟨nl, hn⟩ : ∃ nl, nl = nLn s := ⟨_, rfl⟩
        have HF := Lib.hid f1
        have HA := Lib.hid hA
        rw [← hn] at HA HQ0 hnl ⊢
        have HN := Lib.hid hn
        have hnl2 : (nl : Int) ≤ 400000 := by omega
        clear HR hown f1 hr hA hn
        go_wp2_with fail
        go_loopw [52] (fun iv wx => ∃ k : Nat, iv = .int .i64 k ∧ Hid (QRow s w (.slice A nl c) k wx)) (fun iv _ => nl - (intOf iv).toNat)
        case atStart => exact ⟨0, rfl, HQ0⟩
        case round =>
          obtain ⟨k, rfl, HQ⟩ := hrel
          have hkl : k ≤ nl := by have := HQ.out.le; rw [HN.out]; exact this
          by_cases hk : k < nl
          · obtain ⟨g, rfl, -, -⟩ := HA.out (by omega)
            have hk2 : k < (lnsOf s).length := by rw [lnsOf_len, ← HN.out]; exact hk
            obtain ⟨x, hx⟩ : ∃ x, x = (lnsOf s)[k] := ⟨_, rfl⟩
            have hcell : ∀ q u, q < 2 → x.cells[q]? = some u → wr.cell? ⟨g, k * 2 + q, none⟩ = some u := by
              intro q u hq hu
              have hown := HQ.out.own
              rw [← HN.out] at hown
              have h1 := hown.cellAt (k * 2 + q) (by omega)
              have h2 := ln_flat (lnsOf s) k hk2 q hq
              rw [← hx, hu] at h2
              exact h1.trans h2
            have ht := lns_text s x (by rw [hx]; exact List.getElem_mem hk2)
            have HCK := Lib.hid (fun W => check_any x.text W (by omega))
            have hv := checkV_cases x.text
            have p2 : (k : Int) < nl := by omega
            have e0 := hcell 0 _ (by omega) rfl
            have e1 := hcell 1 _ (by omega) rfl
            simp only [Nat.add_zero] at e0
            have HX := Lib.hid hx
            clear hcell hx
            by_cases h0 : checkV x.text = 0
            · have hb := firstBad_at hk2 HQ.out.bad (by rw [← HX.out]; exact h0)
              have HBD := Lib.hid hb
              rw [h0] at HCK
              have HBL := Lib.hid HQ.out.bel
              have HOW := Lib.hid HQ.out.own
              have hsz := HBL.out.size
              clear hb h0 hv
              go_wp2_with fail
              refine (HCK.out _).mono ?_
              rintro e5 w5 ⟨rfl, rfl⟩
              go_wp2_with fail
              go_roundw
              case rel => exact ⟨k + 1, by go_num, Lib.hid ⟨by rw [← HN.out]; omega, HBD.out, HOW.out.alloc _, HBL.out.alloc hsz _⟩⟩
              case measure => simp [intOf]; omega
            · have hb := firstBad_hit hk2 HQ.out.bad (by rw [← HX.out]; exact h0)
              have HG : Hid (∀ w', Below w.heap.size w w' → GivesLns s w (.returned (.tuple #[.slice none 0 0, .int .i64 (checkV x.text)])) w') := Lib.hid (fun w' hb2 => gives_none (by rw [HX.out, ← hb]; exact out_text hbig HF.out (by rw [hb, ← HX.out]; exact h0)) hb2)
              have q0 : (checkV x.text == 0) = false := by simpa using h0
              have HBL := Lib.hid HQ.out.bel
              have hsz := HBL.out.size
              clear hb h0 hv
              go_wp2_with fail
              refine (HCK.out _).mono ?_
              rintro e5 w5 ⟨rfl, rfl⟩
              go_wp2_with fail
              go_ret2
              exact HG.out _ (HBL.out.alloc hsz _)
          · have p2 : ¬ (k : Int) < nl := by omega
            have hfb : firstBad (lnsOf s) = 0 := firstBad_end (by rw [lnsOf_len, ← HN.out]; omega) HQ.out.bad
            by_cases h2 : 2000 < nl
            · have HG : Hid (∀ w', Below w.heap.size w w' → GivesLns s w (.returned (.tuple #[.slice none 0 0, .int .i64 4])) w') := Lib.hid (fun w' hb2 => gives_none (out_many hbig HF.out hfb (by rw [lnsOf_len, ← HN.out]; exact h2)) hb2)
              have p3 : (2000 : Int) < nl := by omega
              have HB := Lib.hid HQ.out.bel
              clear hfb
              go_wp2_with fail
              go_ret2
              exact HG.out _ HB.out
            · have ho := out_ok hbig HF.out hfb (by rw [lnsOf_len, ← HN.out]; exact h2)
              have HG : Hid (GivesLns s w (.returned (.tuple #[.slice A nl c, .int .i64 0])) wr) := Lib.hid ⟨_, by rw [ho.1], by rw [ho.2, lnsOf_len]; exact HQ.out.own, HQ.out.bel⟩
              have p3 : ¬ (2000 : Int) < nl := by omega
              clear hfb ho
              go_wp2_with fail
              go_ret2
              exact HG.out
      · have z1 : ¬ r.toList = [] := by
          rw [ByteArray.toList_eq]; intro e; have h1 := congrArg List.length e; rw [← sizeL] at h1; exact hr h1
        have z2 : r.toList.isEmpty = false := by
          cases he : r.toList.isEmpty with
          | false => rfl
          | true => exact absurd (List.isEmpty_iff.1 he) z1
        go_wp2_with fail
        refine (cut_any r _ (by omega)).mono ?_
        rintro e1 w1 ⟨a, b, ok, hc, rfl, hb1⟩
        have HC := Lib.hid hc
        have HB1 := Lib.hid hb1
        have hsz1 := hb1.size
        clear hc hb1
        cases ok with
        | false =>
          obtain ⟨f1, f2⟩ := HR.out.miss hr HC.out
          have HG : Hid (∀ w', Below w.heap.size w w' → GivesLns s w (.returned (.tuple #[.slice none 0 0, .int .i64 8])) w') := Lib.hid (fun w' hb => gives_none (out_syntax hbig f1) hb)
          clear f1
          go_wp2_with fail
          refine (parseLine_any a _ (by omega)).mono ?_
          rintro e2 w2 ⟨rfl, hb2⟩
          have HB2 := Lib.hid hb2
          clear hb2
          have hbA : Below w.heap.size w w1 := HR.out.bel.trans (HB1.out.mono HR.out.bel.size)
          have HBA := Lib.hid hbA
          clear hbA
          go_wp2_with fail
          all_goals go_ret2
          all_goals exact HG.out _ ((HBA.out.trans (HB2.out.mono HBA.out.size)).alloc (Nat.le_trans HBA.out.size HB2.out.size) _)
        | true =>
          obtain ⟨hj, e1, e2, e3, e4⟩ := HR.out.hit HC.out
          have hnl := nLn_le s
          obtain ⟨x, hx⟩ : ∃ x, x = lnOf a.data.toList := ⟨_, rfl⟩
          have hx2 : lnOf ((linesL s.data.toList).1[j]'hj) = x := by rw [e1, hx]
          have hxd := lnOf_depth a.data.toList
          rw [← hx, ← sizeL] at hxd
          have HP : Hid (∀ W, Calls Tryd.prog 14 #[.string a] W fun e w' => e = .returned (.tuple #[.agg #[.int .i64 x.depth, .string x.text], .bool (lineOk a.data.toList)]) ∧ Below W.heap.size W w') := Lib.hid (fun W => by rw [hx]; exact parseLine_any a W (by omega))
          have HX := Lib.hid hx2
          have HJ := Lib.hid hj
          have HE1 := Lib.hid e1
          have HE2 := Lib.hid e2
          have hown1 : w1.ownsRow w.heap.size 28 2 u4 j ((preLn s j).flatMap Ln.cells) := own_keepB HR.out.own HB1.out (Nat.le_refl _)
          have hbA : Below w.heap.size w w1 := HR.out.bel.trans (HB1.out.mono HR.out.bel.size)
          have HBA := Lib.hid hbA
          have HOA := Lib.hid hown1
          clear hx2 hx e1 e2 hown1 hbA
          obtain ⟨xd, xt⟩ := x
          simp only at hxd HP
          rcases hok : lineOk a.data.toList with _ | _
          · have hb : synOk s = false := by
              unfold synOk
              rw [HR.out.at_.bad HJ.out (.inl (by rw [HE1.out]; exact hok))]; rfl
            have HG : Hid (∀ w', Below w.heap.size w w' → GivesLns s w (.returned (.tuple #[.slice none 0 0, .int .i64 8])) w') := Lib.hid (fun w' hb2 => gives_none (out_syntax hbig hb) hb2)
            rw [hok] at HP
            clear hb hok
            go_wp2_with fail
            refine (HP.out _).mono ?_
            rintro e2 w2 ⟨rfl, hb2⟩
            have HB2 := Lib.hid hb2
            clear hb2
            go_wp2_with fail
            all_goals go_ret2
            all_goals exact HG.out _ ((HBA.out.trans (HB2.out.mono HBA.out.size)).alloc (Nat.le_trans HBA.out.size HB2.out.size) _)
          · rw [hok] at HP
            by_cases hd : d < xd
            · have hb : synOk s = false := by
                unfold synOk
                rw [HR.out.at_.bad HJ.out (.inr (by rw [HX.out]; exact hd))]; rfl
              have HG : Hid (∀ w', Below w.heap.size w w' → GivesLns s w (.returned (.tuple #[.slice none 0 0, .int .i64 8])) w') := Lib.hid (fun w' hb2 => gives_none (out_syntax hbig hb) hb2)
              have q1 : (d : Int) < xd := by omega
              clear hb hok
              go_wp2_with fail
              refine (HP.out _).mono ?_
              rintro e2 w2 ⟨rfl, hb2⟩
              have HB2 := Lib.hid hb2
              clear hb2
              go_wp2_with fail
              all_goals go_ret2
              all_goals exact HG.out _ ((HBA.out.trans (HB2.out.mono HBA.out.size)).alloc (Nat.le_trans HBA.out.size HB2.out.size) _)
            · have q1 : ¬ (d : Int) < xd := by omega
              have hnext : LnAt (linesL s.data.toList).1 (j + 1) (xd + 1) := by
                have := HR.out.at_.next HJ.out (by rw [HE1.out]; exact hok) (by rw [HX.out]; show xd ≤ d; omega)
                rw [HX.out] at this
                exact this
              have hpre : preLn s (j + 1) = preLn s j ++ [⟨xd, xt⟩] := by rw [preLn_next HJ.out, HX.out]
              have HNX := Lib.hid hnext
              have HPR := Lib.hid hpre
              have hpl := preLn_len (s := s) (j := j) (by omega)
              have HPL := Lib.hid hpl
              clear hok hnext hpre hpl
              go_wp2_with fail
              refine (HP.out _).mono ?_
              rintro e2 w2 ⟨rfl, hb2⟩
              have hbB : Below w.heap.size w w2 := HBA.out.trans (hb2.mono HBA.out.size)
              have hownB : w2.ownsRow w.heap.size 28 2 u4 j ((preLn s j).flatMap Ln.cells) := own_keepB HOA.out hb2 (Nat.le_refl _)
              have HBB := Lib.hid hbB
              have HOB := Lib.hid hownB
              clear hb2 hbB hownB
              have hnews : ∀ q u, (Ln.cells ⟨xd, xt⟩)[q]? = some u → ((w2.alloc (.cells #[.int .i64 xd, .string xt] 28)).alloc (.cells #[.int .i64 xd, .string xt] 28)).cell? ((⟨w2.heap.size + 1, 0, none⟩ : Addr).add q) = some u := by
                have := ln_news (w2.alloc (.cells #[.int .i64 xd, .string xt] 28)) ⟨xd, xt⟩ 28
                simpa only [World.size_alloc] using this
              have hsz2 : w.heap.size ≤ w2.heap.size := HBB.out.size
              have hbox : (w2.alloc (.cells #[.int .i64 xd, .string xt] 28)).heap[w2.heap.size]? = some (.cells #[.int .i64 xd, .string xt] 28) := heap_alloc_new w2 _
              have HBOX := Lib.hid hbox
              have HNEWS := Lib.hid hnews
              clear hnews hbox
              go_wp2_with (at_builtin; refine wpList_append_own _ rfl _ _ 22 rfl w.heap.size 28 i0 _ 2 24 Tryd.underlying22 hi hz0 hz1 hz2 rfl (by omega) _ _ _ rfl ((HOB.out.alloc _).alloc _) ⟨w2.heap.size + 1, 0, none⟩ 1 1 (Ln.cells ⟨xd, xt⟩) rfl rfl HNEWS.out (ln_one ⟨xd, xt⟩) (by unfold maxLen; omega) (by omega) (by simp; omega) ?_)
              intro v' w4 hown4 hgrow4 _
              have hbel4 : Below w.heap.size w w4 := (((HBB.out.alloc hsz2 _).alloc (by simp; omega) _).grown hgrow4 (by simp; omega) (fun k hk => (HOB.out.lt k hk).1))
              have hb4 : w4.heap[w2.heap.size]? = some (.cells #[.int .i64 xd, .string xt] 28) := by
                rw [hgrow4.block w2.heap.size (by simp; omega) (fun e => by have := (HOB.out.lt _ e.symm).2; omega)]
                rw [Below.heap_alloc _ _ _ (by simp)]
                exact HBOX.out
              have c0 := cell_of_row w4 w2.heap.size 0 _ _ (0, 0) hb4
              have HBEL4 := Lib.hid hbel4
              have HOWN4 := Lib.hid hown4
              have HHE := Lib.hid e3
              clear hown4 hgrow4 hbel4 hb4 e3
              go_wp2_with fail
              go_roundw
              case measure => exact HHE.out
              case rel => exact ⟨j + 1, xd + 1, b, rfl, by go_num, Lib.hid ⟨by have := HHE.out; omega, HNX.out, HE2.out, by rw [HPR.out, lnFlat_snoc]; exact HOWN4.out, HBEL4.out⟩⟩
end Go.Proofs.YticdapkljbillaaDoor
