/- Properties: the reference's ValueFault, of lists. Properties in memory; CheckProps. Properties: CheckProps. Properties: the reference's PropsFault. -/
import Derived.Test.YtggnocajpnmemaaGreatDoorPtL
import Derived.Test.YtggnocajpnmemaaGreatDoorPtK
import Derived.WalkKit
import Derived.Lib.Hide
import Derived.Outline
import Derived.Below
import Derived.Deep.DeepCutAuto
import Derived.Deep.CutBlock
import Derived.Deep.LoopGhost
import Derived.Deep.QuietTactic
import Derived.BigQuiet
import Derived.IntWalk
namespace Go.Proofs.YtggnocajpnmemaaGreatDoor
open Go.RowKit Go.Shelf

theorem vf_flat (k i t : Int) (s : ByteArray) (A : Option Addr) (n c : Nat) (w : World) (hz : s.size ≤ 1048576) (hk7 : k ≠ 7) :
    Calls Tryz.prog 8 #[.agg #[.int .i64 k, .int .i64 i, .int .i64 t, .string s, .slice A n c]] w (Quiet w (.int .i64 (fieldsE k i t s n))) := by
  by_cases hk : 0 ≤ k ∧ k ≤ 7
  · rcases hu : unusedB k i t s n with _ | _
    · have hu2 := hu
      unfold unusedB at hu2
      simp only [Bool.or_eq_false_iff, Bool.and_eq_false_iff, decide_eq_false_iff_not, Bool.not_eq_false', useI, useS, decide_eq_true_eq] at hu2
      obtain rfl : n = 0 := by omega
      have hk8 : k = 0 ∨ k = 1 ∨ k = 2 ∨ k = 3 ∨ k = 4 ∨ k = 5 ∨ k = 6 := by omega
      have hf : fieldsE k i t s 0 = if k = 1 then rangeE i 0 1 else if k = 2 then rangeE i (-1000000000) 1000000000 else if k = 4 then rangeE i 0 100000 else if k = 5 then daysE i t else if k = 3 then textE s else if k = 6 then titleE s else 0 := by
        unfold fieldsE; rw [if_neg (by simpa using hk), if_neg (by rw [hu]; simp)]; rfl
      rw [hf]
      rcases hk8 with rfl | rfl | rfl | rfl | rfl | rfl | rfl
      · obtain rfl : i = 0 := by omega
        obtain rfl : t = 0 := by omega
        exact vf_none s A c w (by omega)
      · obtain rfl : t = 0 := by omega
        exact vf_flag i s A c w (by omega)
      · obtain rfl : t = 0 := by omega
        exact vf_number i s A c w (by omega)
      · obtain rfl : i = 0 := by omega
        obtain rfl : t = 0 := by omega
        exact vf_text s A c w
      · obtain rfl : t = 0 := by omega
        exact vf_date i s A c w (by omega)
      · exact vf_span i t s A c w (by omega)
      · obtain rfl : i = 0 := by omega
        obtain rfl : t = 0 := by omega
        exact vf_link s A c w hz
    · have hf : fieldsE k i t s n = 1 := by unfold fieldsE; rw [if_neg (by simpa using hk), if_pos hu]
      rw [hf]
      exact vf_unused k i t s A n c w hk hu
  · have hf : fieldsE k i t s n = 10 := by unfold fieldsE; rw [if_pos hk]
    rw [hf]
    exact vf_kind k i t s A n c w hk

set_option maxRecDepth 100000 in
set_option maxHeartbeats 8000000 in
theorem vf_list (s : ByteArray) (l : List V) (A : Option Addr) (c : Nat) (w : World) (h0 : s.size = 0) (hl : SlAt w w.heap.size l (.slice A l.length c)) :
    Calls Tryz.prog 8 #[.agg #[.int .i64 7, .int .i64 0, .int .i64 0, .string s, .slice A l.length c]] w (Quiet w (.int .i64 (if 20 < l.length then 4 else itemsE l))) := by
  have z1 := str_empty h0
  have z2 := str_isEmpty h0
  have hs0 : ((s.size : Nat) : Int) = 0 := by omega
  have HL := Lib.hid (fun W => by have h := lowByte_any s W; rw [ctl_empty h0] at h; exact h)
  clear h0
  have hn : l.length ≤ 1048576 := by obtain ⟨_, _, e, h1, _⟩ := hl; exact h1
  have HSL := Lib.hid hl
  obtain ⟨n, hnn⟩ : ∃ n, n = l.length := ⟨_, rfl⟩
  rw [← hnn] at hn HSL ⊢
  have HN := Lib.hid hnn
  have hmp : (0 : Int) < n ∨ n = 0 := by omega
  clear hl hnn
  by_cases h20 : 20 < n
  · rw [if_pos h20]
    have p1 : (20 : Int) < n := by omega
    have p0 : (0 : Int) < n := by omega
    clear h20 hmp
    go_enter Tryz.func8, Tryz.ntmps8
    go_wp2_with fail
    refine (HL.out _).mono ?_
    rintro e2 w2 ⟨rfl, hb2⟩
    obtain ⟨hb3, hblk⟩ := keep_box hb2
    have c0 := cell_of_row w2 w.heap.size 0 _ _ (0, 0) hblk
    have c1 := cell_of_row w2 w.heap.size 1 _ _ (0, 0) hblk
    have c2 := cell_of_row w2 w.heap.size 2 _ _ (0, 0) hblk
    have c3 := cell_of_row w2 w.heap.size 3 _ _ (0, 0) hblk
    have c4 := cell_of_row w2 w.heap.size 4 _ _ (0, 0) hblk
    have HB := Lib.hid hb3
    clear hb2 hb3 hblk
    go_wp2_with fail
    go_quiet (fail)
    go_wp2_with fail
    go_ret
    exact ⟨rfl, ⟨HB.out.os, HB.out.tape, HB.out.output, HB.out.size, HB.out.block⟩⟩
  · rw [if_neg h20]
    have p1 : ¬ (20 : Int) < n := by omega
    have hn20 : n ≤ 20 := by omega
    clear h20 hn
    rcases hmp with p0 | rfl
    · have hn := p0
      clear hn
      go_enter Tryz.func8, Tryz.ntmps8
      go_wp2_with fail
      refine (HL.out _).mono ?_
      rintro e2 w2 ⟨rfl, hb2⟩
      obtain ⟨hb3, hblk⟩ := keep_box hb2
      have c0 := cell_of_row w2 w.heap.size 0 _ _ (0, 0) hblk
      have c1 := cell_of_row w2 w.heap.size 1 _ _ (0, 0) hblk
      have c2 := cell_of_row w2 w.heap.size 2 _ _ (0, 0) hblk
      have c3 := cell_of_row w2 w.heap.size 3 _ _ (0, 0) hblk
      have c4 := cell_of_row w2 w.heap.size 4 _ _ (0, 0) hblk
      have HB := Lib.hid hb3
      clear hb2 hb3 hblk
      go_wp2_with fail
      go_quiet (fail)
      go_wp2_with fail
      go_loopw [179] (fun iv wx => ∃ j : Nat, iv = .int .i64 j ∧ Hid (VlRow l w j wx)) (fun iv _ => n - (intOf iv).toNat)
      case atStart => exact ⟨0, rfl, Lib.hid ⟨Nat.zero_le _, rfl, ⟨HB.out.os, HB.out.tape, HB.out.output, HB.out.size, HB.out.block⟩⟩⟩
      case round =>
        clear c4
        obtain ⟨j, rfl, HR⟩ := hrel
        have hjl : j ≤ n := by have := HR.out.le; rw [HN.out]; exact this
        by_cases hj : j < n
        · have hj2 : j < l.length := by rw [← HN.out]; exact hj
          have p2 : (j : Int) < n := by omega
          obtain ⟨b, off, kx, ix, tx, sx, lx, Ax, cx, rfl, hx, hlt, g0, g1, g2, g3, g4, gz, gl, gs⟩ := itemIn (by rw [← HN.out]; exact HSL.out) hj2
          replace g0 := (HR.out.bel.cell (p := ⟨b, off + j * 5, none⟩) hlt).trans g0
          replace g1 := (HR.out.bel.cell (p := ⟨b, off + j * 5 + 1, none⟩) hlt).trans g1
          replace g2 := (HR.out.bel.cell (p := ⟨b, off + j * 5 + 2, none⟩) hlt).trans g2
          replace g3 := (HR.out.bel.cell (p := ⟨b, off + j * 5 + 3, none⟩) hlt).trans g3
          replace g4 := (HR.out.bel.cell (p := ⟨b, off + j * 5 + 4, none⟩) hlt).trans g4
          have hie : itemE l[j] = if kx = 0 ∨ kx = 7 then 10 else fieldsE kx ix tx sx lx.length := by rw [hx]; rfl
          have HBL := Lib.hid HR.out.bel
          have hszw := HBL.out.size
          obtain ⟨m, hm⟩ : ∃ m, m = lx.length := ⟨_, rfl⟩
          rw [← hm] at g4 gl hie
          have HIE := Lib.hid hie
          clear hx gs hm hie
          by_cases hk0 : kx = 0
          · have hE2 := itemsE_hit hj2 HR.out.bad (by rw [HIE.out, if_pos (.inl hk0)]; decide)
            rw [HIE.out, if_pos (.inl hk0)] at hE2
            have HE2 := Lib.hid hE2
            subst hk0
            clear hE2 HR
            go_wp2_with fail
            go_ret
            exact ⟨ret_int (by rw [HE2.out]), HBL.out.alloc hszw _⟩
          · by_cases hk7 : kx = 7
            · have hE2 := itemsE_hit hj2 HR.out.bad (by rw [HIE.out, if_pos (.inr hk7)]; decide)
              rw [HIE.out, if_pos (.inr hk7)] at hE2
              have HE2 := Lib.hid hE2
              subst hk7
              clear hE2 HR hk0
              go_wp2_with fail
              go_ret
              exact ⟨ret_int (by rw [HE2.out]), HBL.out.alloc hszw _⟩
            · have HFX := Lib.hid (fun W => vf_flat kx ix tx sx Ax m cx W gz hk7)
              have q0 : (kx == 0) = false := by simpa using hk0
              have q7 : (kx == 7) = false := by simpa using hk7
              have hie2 : itemE l[j] = fieldsE kx ix tx sx m := by rw [HIE.out, if_neg (by simp [hk0, hk7])]
              by_cases hfx : fieldsE kx ix tx sx m = 0
              · have hnx := itemsE_at hj2 HR.out.bad (by rw [hie2]; exact hfx)
                have HNX := Lib.hid hnx
                rw [hfx] at HFX
                clear hnx hie2 hfx hk0 hk7 HIE HR
                go_wp2_with fail
                refine (HFX.out _).mono ?_
                rintro e5 w5 ⟨rfl, hb5⟩
                have HB5 := Lib.hid ((HBL.out.alloc hszw _).trans (hb5.mono (by simp; omega)))
                clear hb5
                go_wp2_with fail
                go_roundw
                case rel => exact ⟨j + 1, by go_num, Lib.hid ⟨hj2, HNX.out, HB5.out⟩⟩
                case measure => simp [intOf]; omega
              · have hE2 := itemsE_hit hj2 HR.out.bad (by rw [hie2]; exact hfx)
                rw [hie2] at hE2
                obtain ⟨r, hr⟩ : ∃ r, r = fieldsE kx ix tx sx m := ⟨_, rfl⟩
                rw [← hr] at hE2 HFX hfx
                have qr : (r == 0) = false := by simpa using hfx
                have HE2 := Lib.hid hE2
                clear hE2 hie2 hfx hk0 hk7 HIE HR hr
                go_wp2_with fail
                refine (HFX.out _).mono ?_
                rintro e5 w5 ⟨rfl, hb5⟩
                have HB5 := Lib.hid ((HBL.out.alloc hszw _).trans (hb5.mono (by simp; omega)))
                clear hb5
                go_wp2_with fail
                go_ret
                exact ⟨ret_int (by rw [HE2.out]), HB5.out⟩
        · have p2 : ¬ (j : Int) < n := by omega
          have hend := itemsE_end (by rw [← HN.out]; omega) HR.out.bad
          have HEND := Lib.hid hend
          have HBL := Lib.hid HR.out.bel
          clear hend HR
          go_wp2_with fail
          go_ret
          exact ⟨ret_int (by rw [HEND.out]), HBL.out⟩
    · have hl0 : l = [] := List.eq_nil_of_length_eq_zero (by rw [← HN.out])
      have HE : Hid (itemsE l = 0) := Lib.hid (by rw [hl0]; rfl)
      clear hl0 p1 hn20
      go_enter Tryz.func8, Tryz.ntmps8
      go_wp2_with fail
      refine (HL.out _).mono ?_
      rintro e2 w2 ⟨rfl, hb2⟩
      obtain ⟨hb3, hblk⟩ := keep_box hb2
      have c0 := cell_of_row w2 w.heap.size 0 _ _ (0, 0) hblk
      have c1 := cell_of_row w2 w.heap.size 1 _ _ (0, 0) hblk
      have c2 := cell_of_row w2 w.heap.size 2 _ _ (0, 0) hblk
      have c3 := cell_of_row w2 w.heap.size 3 _ _ (0, 0) hblk
      have c4 := cell_of_row w2 w.heap.size 4 _ _ (0, 0) hblk
      have HB := Lib.hid hb3
      clear hb2 hb3 hblk
      go_wp2_with fail
      go_quiet (fail)
      go_wp2_with fail
      go_loopw [179] (fun iv wx => iv = .int .i64 0 ∧ Hid (Below w.heap.size w wx)) (fun _ _ => 0)
      case atStart => exact ⟨rfl, Lib.hid ⟨HB.out.os, HB.out.tape, HB.out.output, HB.out.size, HB.out.block⟩⟩
      case round =>
        obtain ⟨rfl, HB4⟩ := hrel
        go_wp2_with fail
        go_ret
        exact ⟨ret_int HE.out.symm, HB4.out⟩

/-- The reference's ValueFault finds what CheckValue finds. -/
theorem valueFault_any (k i t : Int) (s : ByteArray) (l : List V) (A : Option Addr) (c : Nat) (w : World) (hz : s.size ≤ 1048576) (hl : SlAt w w.heap.size l (.slice A l.length c)) :
    Calls Tryz.prog 8 #[.agg #[.int .i64 k, .int .i64 i, .int .i64 t, .string s, .slice A l.length c]] w (Quiet w (.int .i64 (valueE (.mk k i t s l)))) := by
  by_cases hk7 : k = 7
  · subst hk7
    rcases hu : unusedB 7 i t s l.length with _ | _
    · have hf : fieldsE 7 i t s l.length = 0 := by unfold fieldsE; rw [if_neg (by decide), if_neg (by rw [hu]; simp)]; rfl
      unfold unusedB at hu
      simp only [Bool.or_eq_false_iff, Bool.and_eq_false_iff, decide_eq_false_iff_not, Bool.not_eq_false', useI, useS, decide_eq_true_eq] at hu
      obtain rfl : i = 0 := by omega
      obtain rfl : t = 0 := by omega
      have hv : valueE (.mk 7 0 0 s l) = if 20 < l.length then 4 else itemsE l := by rw [valueE_mk, if_neg (by simp [hf])]
      rw [hv]
      exact vf_list s l A c w (by omega) hl
    · have hf : fieldsE 7 i t s l.length = 1 := by unfold fieldsE; rw [if_neg (by decide), if_pos hu]
      rw [value_bad (by rw [hf]; decide), hf]
      exact vf_unused 7 i t s A l.length c w (by decide) hu
  · have h := vf_flat k i t s A l.length c w hz hk7
    have hv : valueE (.mk k i t s l) = fieldsE k i t s l.length := by
      by_cases hf : fieldsE k i t s l.length = 0
      · have hn : l.length = 0 := by
          by_cases hk : 0 ≤ k ∧ k ≤ 7
          · rcases hu : unusedB k i t s l.length with _ | _
            · unfold unusedB at hu
              simp only [Bool.or_eq_false_iff, Bool.and_eq_false_iff, decide_eq_false_iff_not, Bool.not_eq_false', useI, useS, decide_eq_true_eq] at hu
              omega
            · unfold fieldsE at hf; rw [if_neg (by simpa using hk), if_pos hu] at hf; exact absurd hf (by decide)
          · unfold fieldsE at hf; rw [if_pos hk] at hf; exact absurd hf (by decide)
        rw [value_items hf (by omega), hf, List.eq_nil_of_length_eq_zero hn]; rfl
      · exact value_bad hf
    rw [hv]
    exact h
end Go.Proofs.YtggnocajpnmemaaGreatDoor
namespace Go.Proofs.YtggnocajpnmemaaGreatDoor
open Go.RowKit Go.Shelf

/-! ### What CheckProps finds -/
def leB (a b : ByteArray) : Bool := Op.bytesLess a.toList b.toList || a.toList == b.toList
def itemP (prev : Option ByteArray) (p : PV) : Int :=
  if nameOk p.nm = false then 3 else if (match prev with | none => false | some q => leB p.nm q) = true then 5 else if p.val.kind = 0 then 10 else valueE p.val
def propsFrom : Option ByteArray → List PV → Int
  | _, [] => 0
  | prev, p :: r => if itemP prev p = 0 then propsFrom (some p.nm) r else itemP prev p
def propsE (l : List PV) : Int := if 20 < l.length then 4 else propsFrom none l
structure PlRow (l : List PV) (w : World) (j : Nat) (wx : World) : Prop where
  le : j ≤ l.length
  bad : propsFrom none l = propsFrom (prevOf l j) (l.drop j)
  bel : Below w.heap.size w wx
theorem props_at {l : List PV} {j : Nat} (hj : j < l.length) (h : propsFrom none l = propsFrom (prevOf l j) (l.drop j)) (h0 : itemP (prevOf l j) l[j] = 0) : propsFrom none l = propsFrom (prevOf l (j + 1)) (l.drop (j + 1)) := by
  rw [h, List.drop_eq_getElem_cons hj, propsFrom, if_pos h0]
  show _ = propsFrom ((l[j]?).map (·.nm)) _
  rw [List.getElem?_eq_getElem hj]; rfl
theorem props_hit {l : List PV} {j : Nat} (hj : j < l.length) (h : propsFrom none l = propsFrom (prevOf l j) (l.drop j)) (h0 : itemP (prevOf l j) l[j] ≠ 0) : propsFrom none l = itemP (prevOf l j) l[j] := by
  rw [h, List.drop_eq_getElem_cons hj, propsFrom, if_neg h0]
theorem props_end {l : List PV} {j : Nat} (hj : j = l.length) (h : propsFrom none l = propsFrom (prevOf l j) (l.drop j)) : propsFrom none l = 0 := by
  rw [h, hj, List.drop_length]; rfl
end Go.Proofs.YtggnocajpnmemaaGreatDoor
namespace Go.Proofs.YtggnocajpnmemaaGreatDoor
open Go.RowKit Go.Shelf

theorem leq_str (a b : ByteArray) (W : World) : (binOp .leq 9 (.string a) (.string b)).run Tryz.prog W = .ok (.bool (leB a b)) W := rfl

set_option maxRecDepth 100000 in
set_option maxHeartbeats 8000000 in
theorem checkProps_any (l : List PV) (A : Option Addr) (c : Nat) (w : World) (hl : PSl w w.heap.size l (.slice A l.length c)) :
    Calls Tryz.prog 15 #[.slice A l.length c] w (Quiet w (.int .i64 (propsE l))) := by
  have hn : l.length ≤ 1048576 := by obtain ⟨_, _, e, h1, _⟩ := hl; exact h1
  have HSL := Lib.hid hl
  have hpe : propsE l = if 20 < l.length then 4 else propsFrom none l := rfl
  rw [hpe]
  clear hpe
  obtain ⟨n, hnn⟩ : ∃ n, n = l.length := ⟨_, rfl⟩
  rw [← hnn] at hn HSL ⊢
  have HN := Lib.hid hnn
  clear hl hnn
  by_cases h20 : 20 < n
  · rw [if_pos h20]
    have p1 : (20 : Int) < n := by omega
    clear h20
    go_enter Tryz.func15, Tryz.ntmps15
    go_wp2_with fail
    go_ret
    exact ⟨rfl, Below.refl _ _⟩
  · rw [if_neg h20]
    have p1 : ¬ (20 : Int) < n := by omega
    have hn20 : n ≤ 20 := by omega
    clear h20 hn
    go_enter Tryz.func15, Tryz.ntmps15
    go_wp2_with fail
    go_loopw [12] (fun iv wx => ∃ j : Nat, iv = .int .i64 j ∧ Hid (PlRow l w j wx)) (fun iv _ => n - (intOf iv).toNat)
    case atStart => exact ⟨0, rfl, Lib.hid ⟨Nat.zero_le _, rfl, Below.refl _ _⟩⟩
    case round =>
      obtain ⟨j, rfl, HR⟩ := hrel
      have hjl : j ≤ n := by have := HR.out.le; rw [HN.out]; exact this
      by_cases hj : j < n
      · have hj2 : j < l.length := by rw [← HN.out]; exact hj
        have p2 : (j : Int) < n := by omega
        obtain ⟨b, off, nm, kx, ix, tx, sx, lx, Ax, cx, rfl, hx, hlt, gn, g0, g1, g2, g3, g4, hnz, gz, gl, gs, hpv⟩ := prop_item (by rw [← HN.out]; exact HSL.out) hj2
        replace gn := (HR.out.bel.cell (p := ⟨b, off + j * 6, none⟩) hlt).trans gn
        replace g0 := (HR.out.bel.cell (p := ⟨b, off + j * 6 + 1, none⟩) hlt).trans g0
        replace g1 := (HR.out.bel.cell (p := ⟨b, off + j * 6 + 2, none⟩) hlt).trans g1
        replace g2 := (HR.out.bel.cell (p := ⟨b, off + j * 6 + 3, none⟩) hlt).trans g2
        replace g3 := (HR.out.bel.cell (p := ⟨b, off + j * 6 + 4, none⟩) hlt).trans g3
        replace g4 := (HR.out.bel.cell (p := ⟨b, off + j * 6 + 5, none⟩) hlt).trans g4
        have HBL := Lib.hid HR.out.bel
        have hszw := HBL.out.size
        have HNM := Lib.hid (fun W => checkName_any nm W (by omega))
        have HC := Lib.hid (fun W (hW : Below w.heap.size w W) => checkValue_any kx ix tx sx lx Ax cx W gz ((gs.below hW (Nat.le_refl _)).up hW.size))
        obtain ⟨r, hr⟩ : ∃ r, r = valueE (.mk kx ix tx sx lx) := ⟨_, rfl⟩
        have hie : itemP (prevOf l j) l[j] = if nameOk nm = false then 3 else if (match prevOf l j with | none => false | some q => leB nm q) = true then 5 else if kx = 0 then 10 else r := by rw [hx, hr]; rfl
        obtain ⟨m, hm⟩ : ∃ m, m = lx.length := ⟨_, rfl⟩
        rw [← hm, ← hr] at HC
        rw [← hm] at g4 gl
        have HIE := Lib.hid hie
        clear hx gs hm hie hr
        rcases hnm : nameOk nm with _ | _
        · rw [hnm, if_pos rfl] at HIE
          have HE2 := Lib.hid (props_hit hj2 HR.out.bad (by rw [HIE.out]; decide))
          rw [HIE.out] at HE2
          have hne : nameE nm = 3 := by unfold nameE; rw [hnm]; rfl
          rw [hne] at HNM
          clear hnm hne HIE HR hpv HC
          go_wp2_with fail
          refine (HNM.out _).mono ?_
          rintro e5 w5 ⟨rfl, hw5⟩
          rw [hw5]
          clear hw5
          go_wp2_with fail
          go_ret
          exact ⟨ret_int HE2.out.symm, HBL.out.alloc hszw _⟩
        · rw [hnm, if_neg (by simp)] at HIE
          have hne : nameE nm = 0 := by unfold nameE; rw [hnm]; rfl
          rw [hne] at HNM
          clear hnm hne
          rcases Nat.eq_zero_or_pos j with hj0 | hj0
          · have p3 : ¬ (0 : Int) < j := by omega
            have p3n : ¬ 0 < j := by omega
            rw [show (match prevOf l j with | none => false | some q => leB nm q) = false from by rw [hj0]; rfl, if_neg (by simp)] at HIE
            clear hpv hj0
            by_cases hk0 : kx = 0
            · rw [if_pos hk0] at HIE
              have HE2 := Lib.hid (props_hit hj2 HR.out.bad (by rw [HIE.out]; decide))
              rw [HIE.out] at HE2
              subst hk0
              clear HIE HR HC
              go_wp2_with fail
              refine (HNM.out _).mono ?_
              rintro e5 w5 ⟨rfl, hw5⟩
              rw [hw5]
              clear hw5
              go_wp2_with fail
              go_quiet (fail)
              go_wp2_with fail
              go_ret
              exact ⟨ret_int HE2.out.symm, below_drewN (HBL.out.alloc hszw _) _⟩
            · rw [if_neg hk0] at HIE
              have q0 : (kx == 0) = false := by simpa using hk0
              by_cases hr0 : r = 0
              · have HNX := Lib.hid (props_at hj2 HR.out.bad (by rw [HIE.out]; exact hr0))
                subst hr0
                clear hk0 HIE HR
                go_wp2_with fail
                refine (HNM.out _).mono ?_
                rintro e5 w5 ⟨rfl, hw5⟩
                rw [hw5]
                clear hw5
                go_wp2_with fail
                go_quiet (fail)
                go_wp2_with fail
                refine (HC.out _ (below_drewN (HBL.out.alloc hszw _) _)).mono ?_
                rintro e6 w6 ⟨rfl, hb6⟩
                have HB6 := Lib.hid ((below_drewN (HBL.out.alloc hszw _) _).trans (hb6.mono (by simp; omega)))
                clear hb6
                go_wp2_with fail
                go_roundw
                case rel => exact ⟨j + 1, by go_num, Lib.hid ⟨hj2, HNX.out, HB6.out⟩⟩
                case measure => simp [intOf]; omega
              · have HE2 := Lib.hid (props_hit hj2 HR.out.bad (by rw [HIE.out]; exact hr0))
                rw [HIE.out] at HE2
                have qr : (r == 0) = false := by simpa using hr0
                clear hk0 hr0 HIE HR
                go_wp2_with fail
                refine (HNM.out _).mono ?_
                rintro e5 w5 ⟨rfl, hw5⟩
                rw [hw5]
                clear hw5
                go_wp2_with fail
                go_quiet (fail)
                go_wp2_with fail
                refine (HC.out _ (below_drewN (HBL.out.alloc hszw _) _)).mono ?_
                rintro e6 w6 ⟨rfl, hb6⟩
                have HB6 := Lib.hid ((below_drewN (HBL.out.alloc hszw _) _).trans (hb6.mono (by simp; omega)))
                clear hb6
                go_wp2_with fail
                go_ret
                exact ⟨ret_int HE2.out.symm, HB6.out⟩
          · obtain ⟨jp, hjp⟩ : ∃ jp, j = jp + 1 := ⟨j - 1, by omega⟩
            obtain ⟨q, hq, gq⟩ := hpv jp hjp
            have gqa := fun o => ((HBL.out.alloc hszw o).cell (p := ⟨b, off + jp * 6, none⟩) hlt).trans gq
            clear gq
            have p3 : (0 : Int) < j := by omega
            have p3n : 0 < j := hj0
            have p4 : (jp : Int) < n := by omega
            have p5 : (j : Int) - 1 = jp := by omega
            have p7 : IntKind.i64.wrap (jp : Int) = jp := IntWalk.i64_in _ (by omega)
            have p8 : jp < n := by omega
            rw [show (match prevOf l j with | none => false | some q => leB nm q) = leB nm q from by rw [hq]] at HIE
            clear hpv hj0 hq hjp
            rcases hle : leB nm q with _ | _
            · rw [hle, if_neg (by simp)] at HIE
              have hop : ∀ W, (binOp .leq 9 (.string nm) (.string q)).run Tryz.prog W = .ok (.bool false) W := fun W => by rw [leq_str, hle]
              clear hle
              by_cases hk0 : kx = 0
              · rw [if_pos hk0] at HIE
                have HE2 := Lib.hid (props_hit hj2 HR.out.bad (by rw [HIE.out]; decide))
                rw [HIE.out] at HE2
                subst hk0
                clear HIE HR HC
                go_wp2_with fail
                refine (HNM.out _).mono ?_
                rintro e5 w5 ⟨rfl, hw5⟩
                rw [hw5]
                clear hw5
                go_wp2_with fail
                go_quiet (fail)
                go_wp2_with fail
                go_ret
                exact ⟨ret_int HE2.out.symm, below_drewN (HBL.out.alloc hszw _) _⟩
              · rw [if_neg hk0] at HIE
                have q0 : (kx == 0) = false := by simpa using hk0
                by_cases hr0 : r = 0
                · have HNX := Lib.hid (props_at hj2 HR.out.bad (by rw [HIE.out]; exact hr0))
                  subst hr0
                  clear hk0 HIE HR
                  go_wp2_with fail
                  refine (HNM.out _).mono ?_
                  rintro e5 w5 ⟨rfl, hw5⟩
                  rw [hw5]
                  clear hw5
                  go_wp2_with fail
                  go_quiet (fail)
                  go_wp2_with fail
                  refine (HC.out _ (below_drewN (HBL.out.alloc hszw _) _)).mono ?_
                  rintro e6 w6 ⟨rfl, hb6⟩
                  have HB6 := Lib.hid ((below_drewN (HBL.out.alloc hszw _) _).trans (hb6.mono (by simp; omega)))
                  clear hb6
                  go_wp2_with fail
                  go_roundw
                  case rel => exact ⟨j + 1, by go_num, Lib.hid ⟨hj2, HNX.out, HB6.out⟩⟩
                  case measure => simp [intOf]; omega
                · have HE2 := Lib.hid (props_hit hj2 HR.out.bad (by rw [HIE.out]; exact hr0))
                  rw [HIE.out] at HE2
                  have qr : (r == 0) = false := by simpa using hr0
                  clear hk0 hr0 HIE HR
                  go_wp2_with fail
                  refine (HNM.out _).mono ?_
                  rintro e5 w5 ⟨rfl, hw5⟩
                  rw [hw5]
                  clear hw5
                  go_wp2_with fail
                  go_quiet (fail)
                  go_wp2_with fail
                  refine (HC.out _ (below_drewN (HBL.out.alloc hszw _) _)).mono ?_
                  rintro e6 w6 ⟨rfl, hb6⟩
                  have HB6 := Lib.hid ((below_drewN (HBL.out.alloc hszw _) _).trans (hb6.mono (by simp; omega)))
                  clear hb6
                  go_wp2_with fail
                  go_ret
                  exact ⟨ret_int HE2.out.symm, HB6.out⟩
            · rw [hle, if_pos rfl] at HIE
              have hop : ∀ W, (binOp .leq 9 (.string nm) (.string q)).run Tryz.prog W = .ok (.bool true) W := fun W => by rw [leq_str, hle]
              clear hle
              have HE2 := Lib.hid (props_hit hj2 HR.out.bad (by rw [HIE.out]; decide))
              rw [HIE.out] at HE2
              clear HIE HR HC
              go_wp2_with fail
              refine (HNM.out _).mono ?_
              rintro e5 w5 ⟨rfl, hw5⟩
              rw [hw5]
              clear hw5
              go_wp2_with fail
              go_quiet (fail)
              go_wp2_with fail
              go_ret
              exact ⟨ret_int HE2.out.symm, below_drewN (HBL.out.alloc hszw _) _⟩
      · have p2 : ¬ (j : Int) < n := by omega
        have HEND := Lib.hid (props_end (by rw [← HN.out]; omega) HR.out.bad)
        have HBL := Lib.hid HR.out.bel
        clear HR
        go_wp2_with fail
        go_ret
        exact ⟨ret_int HEND.out.symm, HBL.out⟩
end Go.Proofs.YtggnocajpnmemaaGreatDoor
namespace Go.Proofs.YtggnocajpnmemaaGreatDoor
open Go.RowKit Go.Shelf

set_option maxRecDepth 100000 in
set_option maxHeartbeats 8000000 in
theorem propsFault_any (l : List PV) (A : Option Addr) (c : Nat) (w : World) (hl : PSl w w.heap.size l (.slice A l.length c)) :
    Calls Tryz.prog 16 #[.slice A l.length c] w (Quiet w (.int .i64 (propsE l))) := by
  have hn : l.length ≤ 1048576 := by obtain ⟨_, _, e, h1, _⟩ := hl; exact h1
  have HSL := Lib.hid hl
  have hpe : propsE l = if 20 < l.length then 4 else propsFrom none l := rfl
  rw [hpe]
  clear hpe
  obtain ⟨n, hnn⟩ : ∃ n, n = l.length := ⟨_, rfl⟩
  rw [← hnn] at hn HSL ⊢
  have HN := Lib.hid hnn
  clear hl hnn
  by_cases h20 : 20 < n
  · rw [if_pos h20]
    have p1 : (20 : Int) < n := by omega
    clear h20
    go_enter Tryz.func16, Tryz.ntmps16
    go_wp2_with fail
    go_ret
    exact ⟨rfl, Below.refl _ _⟩
  · rw [if_neg h20]
    have p1 : ¬ (20 : Int) < n := by omega
    have hn20 : n ≤ 20 := by omega
    clear h20 hn
    go_enter Tryz.func16, Tryz.ntmps16
    go_wp2_with fail
    go_loopw [11] (fun iv wx => ∃ j : Nat, iv = .int .i64 j ∧ Hid (PlRow l w j wx)) (fun iv _ => n - (intOf iv).toNat)
    case atStart => exact ⟨0, rfl, Lib.hid ⟨Nat.zero_le _, rfl, Below.refl _ _⟩⟩
    case round =>
      obtain ⟨j, rfl, HR⟩ := hrel
      have hjl : j ≤ n := by have := HR.out.le; rw [HN.out]; exact this
      by_cases hj : j < n
      · have hj2 : j < l.length := by rw [← HN.out]; exact hj
        have p2 : (j : Int) < n := by omega
        obtain ⟨b, off, nm, kx, ix, tx, sx, lx, Ax, cx, rfl, hx, hlt, gn, g0, g1, g2, g3, g4, hnz, gz, gl, gs, hpv⟩ := prop_item (by rw [← HN.out]; exact HSL.out) hj2
        replace gn := (HR.out.bel.cell (p := ⟨b, off + j * 6, none⟩) hlt).trans gn
        replace g0 := (HR.out.bel.cell (p := ⟨b, off + j * 6 + 1, none⟩) hlt).trans g0
        replace g1 := (HR.out.bel.cell (p := ⟨b, off + j * 6 + 2, none⟩) hlt).trans g1
        replace g2 := (HR.out.bel.cell (p := ⟨b, off + j * 6 + 3, none⟩) hlt).trans g2
        replace g3 := (HR.out.bel.cell (p := ⟨b, off + j * 6 + 4, none⟩) hlt).trans g3
        replace g4 := (HR.out.bel.cell (p := ⟨b, off + j * 6 + 5, none⟩) hlt).trans g4
        have HBL := Lib.hid HR.out.bel
        have hszw := HBL.out.size
        have HNM := Lib.hid (fun W => isName_any nm W (by omega))
        have HC := Lib.hid (fun W (hW : Below w.heap.size w W) => valueFault_any kx ix tx sx lx Ax cx W gz ((gs.below hW (Nat.le_refl _)).up hW.size))
        obtain ⟨r, hr⟩ : ∃ r, r = valueE (.mk kx ix tx sx lx) := ⟨_, rfl⟩
        have hie : itemP (prevOf l j) l[j] = if nameOk nm = false then 3 else if (match prevOf l j with | none => false | some q => leB nm q) = true then 5 else if kx = 0 then 10 else r := by rw [hx, hr]; rfl
        obtain ⟨m, hm⟩ : ∃ m, m = lx.length := ⟨_, rfl⟩
        rw [← hm, ← hr] at HC
        rw [← hm] at g4 gl
        have HIE := Lib.hid hie
        clear hx gs hm hie hr
        rcases hnm : nameOk nm with _ | _
        · rw [hnm, if_pos rfl] at HIE
          have HE2 := Lib.hid (props_hit hj2 HR.out.bad (by rw [HIE.out]; decide))
          rw [HIE.out] at HE2
          rw [hnm] at HNM
          clear hnm HIE HR hpv HC
          go_wp2_with fail
          refine (HNM.out _).mono ?_
          rintro e5 w5 ⟨rfl, hb5⟩
          have HB5 := Lib.hid ((HBL.out.alloc hszw _).trans (hb5.mono (by simp; omega)))
          clear hb5
          go_wp2_with fail
          go_ret
          exact ⟨ret_int HE2.out.symm, HB5.out⟩
        · rw [hnm, if_neg (by simp)] at HIE
          rw [hnm] at HNM
          clear hnm
          rcases Nat.eq_zero_or_pos j with hj0 | hj0
          · have p3 : ¬ (0 : Int) < j := by omega
            have p3n : ¬ 0 < j := by omega
            rw [show (match prevOf l j with | none => false | some q => leB nm q) = false from by rw [hj0]; rfl, if_neg (by simp)] at HIE
            clear hpv hj0
            by_cases hk0 : kx = 0
            · rw [if_pos hk0] at HIE
              have HE2 := Lib.hid (props_hit hj2 HR.out.bad (by rw [HIE.out]; decide))
              rw [HIE.out] at HE2
              subst hk0
              clear HIE HR HC
              go_wp2_with fail
              refine (HNM.out _).mono ?_
              rintro e5 w5 ⟨rfl, hb5⟩
              obtain ⟨hb3, hblk⟩ := keep_box hb5
              have HB5 := Lib.hid (HBL.out.trans (hb3.mono hszw))
              have c0 := cell_of_row w5 _ 0 _ _ (0, 0) hblk
              have c1 := cell_of_row w5 _ 1 _ _ (0, 0) hblk
              have c2 := cell_of_row w5 _ 2 _ _ (0, 0) hblk
              have c3 := cell_of_row w5 _ 3 _ _ (0, 0) hblk
              have c4 := cell_of_row w5 _ 4 _ _ (0, 0) hblk
              have c5 := cell_of_row w5 _ 5 _ _ (0, 0) hblk
              clear hb5 hb3 hblk
              go_wp2_with fail
              go_quiet (fail)
              go_wp2_with fail
              go_ret
              exact ⟨ret_int HE2.out.symm, below_drewN HB5.out _⟩
            · rw [if_neg hk0] at HIE
              have q0 : (kx == 0) = false := by simpa using hk0
              by_cases hr0 : r = 0
              · have HNX := Lib.hid (props_at hj2 HR.out.bad (by rw [HIE.out]; exact hr0))
                subst hr0
                clear hk0 HIE HR
                go_wp2_with fail
                refine (HNM.out _).mono ?_
                rintro e5 w5 ⟨rfl, hb5⟩
                obtain ⟨hb3, hblk⟩ := keep_box hb5
                have HB5 := Lib.hid (HBL.out.trans (hb3.mono hszw))
                have c0 := cell_of_row w5 _ 0 _ _ (0, 0) hblk
                have c1 := cell_of_row w5 _ 1 _ _ (0, 0) hblk
                have c2 := cell_of_row w5 _ 2 _ _ (0, 0) hblk
                have c3 := cell_of_row w5 _ 3 _ _ (0, 0) hblk
                have c4 := cell_of_row w5 _ 4 _ _ (0, 0) hblk
                have c5 := cell_of_row w5 _ 5 _ _ (0, 0) hblk
                clear hb5 hb3 hblk
                go_wp2_with fail
                go_quiet (fail)
                go_wp2_with fail
                refine (HC.out _ (below_drewN HB5.out _)).mono ?_
                rintro e6 w6 ⟨rfl, hb6⟩
                have HB6 := Lib.hid ((below_drewN HB5.out _).trans (hb6.mono HB5.out.size))
                clear hb6
                go_wp2_with fail
                go_roundw
                case rel => exact ⟨j + 1, by go_num, Lib.hid ⟨hj2, HNX.out, HB6.out⟩⟩
                case measure => simp [intOf]; omega
              · have HE2 := Lib.hid (props_hit hj2 HR.out.bad (by rw [HIE.out]; exact hr0))
                rw [HIE.out] at HE2
                have qr : (r == 0) = false := by simpa using hr0
                clear hk0 hr0 HIE HR
                go_wp2_with fail
                refine (HNM.out _).mono ?_
                rintro e5 w5 ⟨rfl, hb5⟩
                obtain ⟨hb3, hblk⟩ := keep_box hb5
                have HB5 := Lib.hid (HBL.out.trans (hb3.mono hszw))
                have c0 := cell_of_row w5 _ 0 _ _ (0, 0) hblk
                have c1 := cell_of_row w5 _ 1 _ _ (0, 0) hblk
                have c2 := cell_of_row w5 _ 2 _ _ (0, 0) hblk
                have c3 := cell_of_row w5 _ 3 _ _ (0, 0) hblk
                have c4 := cell_of_row w5 _ 4 _ _ (0, 0) hblk
                have c5 := cell_of_row w5 _ 5 _ _ (0, 0) hblk
                clear hb5 hb3 hblk
                go_wp2_with fail
                go_quiet (fail)
                go_wp2_with fail
                refine (HC.out _ (below_drewN HB5.out _)).mono ?_
                rintro e6 w6 ⟨rfl, hb6⟩
                have HB6 := Lib.hid ((below_drewN HB5.out _).trans (hb6.mono HB5.out.size))
                clear hb6
                go_wp2_with fail
                go_ret
                exact ⟨ret_int HE2.out.symm, HB6.out⟩
          · obtain ⟨jp, hjp⟩ : ∃ jp, j = jp + 1 := ⟨j - 1, by omega⟩
            obtain ⟨q, hq, gq⟩ := hpv jp hjp
            have HGQ := Lib.hid gq
            clear gq
            have p3 : (0 : Int) < j := by omega
            have p3n : 0 < j := hj0
            have p4 : (jp : Int) < n := by omega
            have p5 : (j : Int) - 1 = jp := by omega
            have p7 : IntKind.i64.wrap (jp : Int) = jp := IntWalk.i64_in _ (by omega)
            have p8 : jp < n := by omega
            rw [show (match prevOf l j with | none => false | some q => leB nm q) = leB nm q from by rw [hq]] at HIE
            clear hpv hj0 hq hjp
            rcases hle : leB nm q with _ | _
            · rw [hle, if_neg (by simp)] at HIE
              have hop : ∀ W, (binOp .leq 9 (.string nm) (.string q)).run Tryz.prog W = .ok (.bool false) W := fun W => by rw [leq_str, hle]
              clear hle
              by_cases hk0 : kx = 0
              · rw [if_pos hk0] at HIE
                have HE2 := Lib.hid (props_hit hj2 HR.out.bad (by rw [HIE.out]; decide))
                rw [HIE.out] at HE2
                subst hk0
                clear HIE HR HC
                go_wp2_with fail
                refine (HNM.out _).mono ?_
                rintro e5 w5 ⟨rfl, hb5⟩
                obtain ⟨hb3, hblk⟩ := keep_box hb5
                have HB5 := Lib.hid (HBL.out.trans (hb3.mono hszw))
                have gqa := (HB5.out.cell (p := ⟨b, off + jp * 6, none⟩) hlt).trans HGQ.out
                have c0 := cell_of_row w5 _ 0 _ _ (0, 0) hblk
                have c1 := cell_of_row w5 _ 1 _ _ (0, 0) hblk
                have c2 := cell_of_row w5 _ 2 _ _ (0, 0) hblk
                have c3 := cell_of_row w5 _ 3 _ _ (0, 0) hblk
                have c4 := cell_of_row w5 _ 4 _ _ (0, 0) hblk
                have c5 := cell_of_row w5 _ 5 _ _ (0, 0) hblk
                clear hb5 hb3 hblk
                go_wp2_with fail
                go_quiet (fail)
                go_wp2_with fail
                go_ret
                exact ⟨ret_int HE2.out.symm, below_drewN HB5.out _⟩
              · rw [if_neg hk0] at HIE
                have q0 : (kx == 0) = false := by simpa using hk0
                by_cases hr0 : r = 0
                · have HNX := Lib.hid (props_at hj2 HR.out.bad (by rw [HIE.out]; exact hr0))
                  subst hr0
                  clear hk0 HIE HR
                  go_wp2_with fail
                  refine (HNM.out _).mono ?_
                  rintro e5 w5 ⟨rfl, hb5⟩
                  obtain ⟨hb3, hblk⟩ := keep_box hb5
                  have HB5 := Lib.hid (HBL.out.trans (hb3.mono hszw))
                  have gqa := (HB5.out.cell (p := ⟨b, off + jp * 6, none⟩) hlt).trans HGQ.out
                  have c0 := cell_of_row w5 _ 0 _ _ (0, 0) hblk
                  have c1 := cell_of_row w5 _ 1 _ _ (0, 0) hblk
                  have c2 := cell_of_row w5 _ 2 _ _ (0, 0) hblk
                  have c3 := cell_of_row w5 _ 3 _ _ (0, 0) hblk
                  have c4 := cell_of_row w5 _ 4 _ _ (0, 0) hblk
                  have c5 := cell_of_row w5 _ 5 _ _ (0, 0) hblk
                  clear hb5 hb3 hblk
                  go_wp2_with fail
                  go_quiet (fail)
                  go_wp2_with fail
                  refine (HC.out _ (below_drewN HB5.out _)).mono ?_
                  rintro e6 w6 ⟨rfl, hb6⟩
                  have HB6 := Lib.hid ((below_drewN HB5.out _).trans (hb6.mono HB5.out.size))
                  clear hb6
                  go_wp2_with fail
                  go_roundw
                  case rel => exact ⟨j + 1, by go_num, Lib.hid ⟨hj2, HNX.out, HB6.out⟩⟩
                  case measure => simp [intOf]; omega
                · have HE2 := Lib.hid (props_hit hj2 HR.out.bad (by rw [HIE.out]; exact hr0))
                  rw [HIE.out] at HE2
                  have qr : (r == 0) = false := by simpa using hr0
                  clear hk0 hr0 HIE HR
                  go_wp2_with fail
                  refine (HNM.out _).mono ?_
                  rintro e5 w5 ⟨rfl, hb5⟩
                  obtain ⟨hb3, hblk⟩ := keep_box hb5
                  have HB5 := Lib.hid (HBL.out.trans (hb3.mono hszw))
                  have gqa := (HB5.out.cell (p := ⟨b, off + jp * 6, none⟩) hlt).trans HGQ.out
                  have c0 := cell_of_row w5 _ 0 _ _ (0, 0) hblk
                  have c1 := cell_of_row w5 _ 1 _ _ (0, 0) hblk
                  have c2 := cell_of_row w5 _ 2 _ _ (0, 0) hblk
                  have c3 := cell_of_row w5 _ 3 _ _ (0, 0) hblk
                  have c4 := cell_of_row w5 _ 4 _ _ (0, 0) hblk
                  have c5 := cell_of_row w5 _ 5 _ _ (0, 0) hblk
                  clear hb5 hb3 hblk
                  go_wp2_with fail
                  go_quiet (fail)
                  go_wp2_with fail
                  refine (HC.out _ (below_drewN HB5.out _)).mono ?_
                  rintro e6 w6 ⟨rfl, hb6⟩
                  have HB6 := Lib.hid ((below_drewN HB5.out _).trans (hb6.mono HB5.out.size))
                  clear hb6
                  go_wp2_with fail
                  go_ret
                  exact ⟨ret_int HE2.out.symm, HB6.out⟩
            · rw [hle, if_pos rfl] at HIE
              have hop : ∀ W, (binOp .leq 9 (.string nm) (.string q)).run Tryz.prog W = .ok (.bool true) W := fun W => by rw [leq_str, hle]
              clear hle
              have HE2 := Lib.hid (props_hit hj2 HR.out.bad (by rw [HIE.out]; decide))
              rw [HIE.out] at HE2
              clear HIE HR HC
              go_wp2_with fail
              refine (HNM.out _).mono ?_
              rintro e5 w5 ⟨rfl, hb5⟩
              obtain ⟨hb3, hblk⟩ := keep_box hb5
              have HB5 := Lib.hid (HBL.out.trans (hb3.mono hszw))
              have gqa := (HB5.out.cell (p := ⟨b, off + jp * 6, none⟩) hlt).trans HGQ.out
              have c0 := cell_of_row w5 _ 0 _ _ (0, 0) hblk
              have c1 := cell_of_row w5 _ 1 _ _ (0, 0) hblk
              have c2 := cell_of_row w5 _ 2 _ _ (0, 0) hblk
              have c3 := cell_of_row w5 _ 3 _ _ (0, 0) hblk
              have c4 := cell_of_row w5 _ 4 _ _ (0, 0) hblk
              have c5 := cell_of_row w5 _ 5 _ _ (0, 0) hblk
              clear hb5 hb3 hblk
              go_wp2_with fail
              go_quiet (fail)
              go_wp2_with fail
              go_ret
              exact ⟨ret_int HE2.out.symm, below_drewN HB5.out _⟩
      · have p2 : ¬ (j : Int) < n := by omega
        have HEND := Lib.hid (props_end (by rw [← HN.out]; omega) HR.out.bad)
        have HBL := Lib.hid HR.out.bel
        clear HR
        go_wp2_with fail
        go_ret
        exact ⟨ret_int HEND.out.symm, HBL.out⟩
end Go.Proofs.YtggnocajpnmemaaGreatDoor
