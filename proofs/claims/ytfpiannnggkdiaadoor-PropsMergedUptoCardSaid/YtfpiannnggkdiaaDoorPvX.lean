/- Properties: the reference's ValueFault: what is unused. Properties: the reference's ValueFault, of values that are no lists: what is unused; numbers and days. Properties: the reference's ValueFault, of strings and links. Properties: the reference's ValueFault, of lists. Properties in memory; CheckProps. Properties: CheckProps. Properties: the reference's PropsFault. -/
import Derived.Test.YtfpiannnggkdiaaDoorPuX
import Derived.WalkKit
import Derived.Lib.Hide
import Derived.Outline
import Derived.Below
import Derived.Deep.QuietTactic
import Derived.BigQuiet
import Derived.Deep.DeepCutAuto
import Derived.Deep.CutBlock
import Derived.Deep.LoopGhost
import Derived.Deep.RegionHeld3
import Derived.IntWalk
namespace Go.Proofs.YtfpiannnggkdiaaDoor
open Go.RowKit Go.Shelf

end Go.Proofs.YtfpiannnggkdiaaDoor
namespace Go.Proofs.YtfpiannnggkdiaaDoor
open Go.RowKit Go.Shelf

theorem ctl_empty {s : ByteArray} (h : s.size = 0) : ctlB s = false := by
  have e : s.data.toList = [] := List.eq_nil_of_length_eq_zero (by rw [← sizeL]; exact h)
  unfold ctlB; rw [e]; rfl
/-- Behind the texts' test, of a value without text and items. -/
theorem keep_box {w w2 : World} {o : Obj} (hb : Below (w.alloc o).heap.size (w.alloc o) w2) : Below w.heap.size w w2 ∧ w2.heap[w.heap.size]? = some o :=
  ⟨((Below.refl _ w).alloc (Nat.le_refl _) o).trans (hb.mono (by simp)), (hb.block _ (by simp)).trans (heap_alloc_new w o)⟩

end Go.Proofs.YtfpiannnggkdiaaDoor
namespace Go.Proofs.YtfpiannnggkdiaaDoor
open Go.RowKit Go.Shelf

theorem lt_of_blk' {w : World} {B : Nat} {o : Obj} (h : w.heap[B]? = some o) : B < w.heap.size := by
  by_cases hlt : B < w.heap.size
  · exact hlt
  · rw [Array.getElem?_eq_none (by omega)] at h; cases h
/-- A box that is kept. -/
structure BoxIn (w : World) (o : Obj) (W : World) : Prop where
  below : Below w.heap.size w W
  blk : W.heap[w.heap.size]? = some o
theorem BoxIn.next {w W W' : World} {o : Obj} (h : BoxIn w o W) (hb : Below W.heap.size W W') : BoxIn w o W' :=
  ⟨h.below.trans (hb.mono h.below.size), (hb.block _ (lt_of_blk' h.blk)).trans h.blk⟩
theorem BoxIn.drewN {w W : World} {o : Obj} (h : BoxIn w o W) (n : Nat) : BoxIn w o (W.drewN n) := ⟨⟨h.below.os, h.below.tape, h.below.output, h.below.size, h.below.block⟩, h.blk⟩
theorem BoxIn.drew {w W : World} {o : Obj} (h : BoxIn w o W) : BoxIn w o W.drew := ⟨⟨h.below.os, h.below.tape, h.below.output, h.below.size, h.below.block⟩, h.blk⟩
theorem keepC {w W W' : World} {k0 : Value} {s0 : Value} (h : W.cell? ⟨w.heap.size, 0, none⟩ = some k0 ∧ W.cell? ⟨w.heap.size, 3, none⟩ = some s0) (hb : w.heap.size < W.heap.size ∧ Below W.heap.size W W') :
    W'.cell? ⟨w.heap.size, 0, none⟩ = some k0 ∧ W'.cell? ⟨w.heap.size, 3, none⟩ = some s0 :=
  ⟨(hb.2.cell (p := ⟨w.heap.size, 0, none⟩) hb.1).trans h.1, (hb.2.cell (p := ⟨w.heap.size, 3, none⟩) hb.1).trans h.2⟩
theorem call_in {w W : World} {o : Obj} {f : Nat} {args : Array Value} {v : Value} (h : BoxIn w o W) (hc : Calls Tryd.prog f args W (Quiet W v)) :
    Calls Tryd.prog f args W fun e w' => e = .returned v ∧ (w.heap.size < W.heap.size ∧ Below W.heap.size W w') ∧ Hid (BoxIn w o w') := by
  refine hc.mono ?_
  rintro e w' ⟨rfl, hb⟩
  exact ⟨rfl, ⟨lt_of_blk' h.blk, hb⟩, Lib.hid (h.next hb)⟩

end Go.Proofs.YtfpiannnggkdiaaDoor
namespace Go.Proofs.YtfpiannnggkdiaaDoor
open Go.RowKit Go.Shelf

end Go.Proofs.YtfpiannnggkdiaaDoor
namespace Go.Proofs.YtfpiannnggkdiaaDoor
open Go.RowKit Go.Shelf

/-! ### What CheckProps finds -/
def leB (a b : ByteArray) : Bool := Op.bytesLess a.toList b.toList || a.toList == b.toList
def itemP (prev : Option ByteArray) (p : PV) : Int :=
  if nameOk p.nm = false then 3 else if (match prev with | none => false | some q => leB p.nm q) = true then 5 else if p.val.kind = 0 then 10 else valueE p.val
def propsFrom : Option ByteArray → List PV → Int
  | _, [] => 0
  | prev, p :: r => if itemP prev p = 0 then propsFrom (some p.nm) r else itemP prev p
def propsE (l : List PV) : Int := if 20 < l.length then 4 else propsFrom none l
structure PlRow (l : List PV) (w : World) (j : Nat) (wx : World) : Prop where
  le : j ≤ l.length
  bad : propsFrom none l = propsFrom (prevOf l j) (l.drop j)
  bel : Below w.heap.size w wx
theorem props_at {l : List PV} {j : Nat} (hj : j < l.length) (h : propsFrom none l = propsFrom (prevOf l j) (l.drop j)) (h0 : itemP (prevOf l j) l[j] = 0) : propsFrom none l = propsFrom (prevOf l (j + 1)) (l.drop (j + 1)) := by
  rw [h, List.drop_eq_getElem_cons hj, propsFrom, if_pos h0]
  show _ = propsFrom ((l[j]?).map (·.nm)) _
  rw [List.getElem?_eq_getElem hj]; rfl
theorem props_hit {l : List PV} {j : Nat} (hj : j < l.length) (h : propsFrom none l = propsFrom (prevOf l j) (l.drop j)) (h0 : itemP (prevOf l j) l[j] ≠ 0) : propsFrom none l = itemP (prevOf l j) l[j] := by
  rw [h, List.drop_eq_getElem_cons hj, propsFrom, if_neg h0]
theorem props_end {l : List PV} {j : Nat} (hj : j = l.length) (h : propsFrom none l = propsFrom (prevOf l j) (l.drop j)) : propsFrom none l = 0 := by
  rw [h, hj, List.drop_length]; rfl
end Go.Proofs.YtfpiannnggkdiaaDoor
namespace Go.Proofs.YtfpiannnggkdiaaDoor
open Go.RowKit Go.Shelf

theorem leq_str (a b : ByteArray) (W : World) : (binOp .leq 9 (.string a) (.string b)).run Tryd.prog W = .ok (.bool (leB a b)) W := rfl

set_option maxRecDepth 100000 in
set_option maxHeartbeats 8000000 in
theorem checkProps_any (l : List PV) (A : Option Addr) (c : Nat) (w : World) (hl : PSl w w.heap.size l (.slice A l.length c)) :
    Calls Tryd.prog 12 #[.slice A l.length c] w (Quiet w (.int .i64 (propsE l))) := by
  have hn : l.length ≤ 1048576 := by obtain ⟨_, _, e, h1, _⟩ := hl; exact h1
  have HSL := Lib.hid hl
  have hpe : propsE l = if 20 < l.length then 4 else propsFrom none l := rfl
  rw [hpe]
  clear hpe
  obtain ⟨n, hnn⟩ : ∃ n, n = l.length := ⟨_, rfl⟩
  rw [← hnn] at hn HSL ⊢
  have HN := Lib.hid hnn
  clear hl hnn
  by_cases h20 : 20 < n
  · rw [if_pos h20]
    have p1 : (20 : Int) < n := by omega
    clear h20
    go_enter Tryd.func12, Tryd.ntmps12
    go_wp2_with fail
    go_ret
    exact ⟨rfl, Below.refl _ _⟩
  · rw [if_neg h20]
    have p1 : ¬ (20 : Int) < n := by omega
    have hn20 : n ≤ 20 := by omega
    clear h20 hn
    go_enter Tryd.func12, Tryd.ntmps12
    go_wp2_with fail
    go_loopw [12] (fun iv wx => ∃ j : Nat, iv = .int .i64 j ∧ Hid (PlRow l w j wx)) (fun iv _ => n - (intOf iv).toNat)
    case atStart => exact ⟨0, rfl, Lib.hid ⟨Nat.zero_le _, rfl, Below.refl _ _⟩⟩
    case round =>
      obtain ⟨j, rfl, HR⟩ := hrel
      have hjl : j ≤ n := by have := HR.out.le; rw [HN.out]; exact this
      by_cases hj : j < n
      · have hj2 : j < l.length := by rw [← HN.out]; exact hj
        have p2 : (j : Int) < n := by omega
        obtain ⟨b, off, nm, kx, ix, tx, sx, lx, Ax, cx, rfl, hx, hlt, gn, g0, g1, g2, g3, g4, hnz, gz, gl, gs, hpv⟩ := prop_item (by rw [← HN.out]; exact HSL.out) hj2
        replace gn := (HR.out.bel.cell (p := ⟨b, off + j * 6, none⟩) hlt).trans gn
        replace g0 := (HR.out.bel.cell (p := ⟨b, off + j * 6 + 1, none⟩) hlt).trans g0
        replace g1 := (HR.out.bel.cell (p := ⟨b, off + j * 6 + 2, none⟩) hlt).trans g1
        replace g2 := (HR.out.bel.cell (p := ⟨b, off + j * 6 + 3, none⟩) hlt).trans g2
        replace g3 := (HR.out.bel.cell (p := ⟨b, off + j * 6 + 4, none⟩) hlt).trans g3
        replace g4 := (HR.out.bel.cell (p := ⟨b, off + j * 6 + 5, none⟩) hlt).trans g4
        have HBL := Lib.hid HR.out.bel
        have hszw := HBL.out.size
        have HNM := Lib.hid (fun W => checkName_any nm W (by omega))
        have HC := Lib.hid (fun W (hW : Below w.heap.size w W) => checkValue_any kx ix tx sx lx Ax cx W gz ((gs.below hW (Nat.le_refl _)).up hW.size))
        obtain ⟨r, hr⟩ : ∃ r, r = valueE (.mk kx ix tx sx lx) := ⟨_, rfl⟩
        have hie : itemP (prevOf l j) l[j] = if nameOk nm = false then 3 else if (match prevOf l j with | none => false | some q => leB nm q) = true then 5 else if kx = 0 then 10 else r := by rw [hx, hr]; rfl
        obtain ⟨m, hm⟩ : ∃ m, m = lx.length := ⟨_, rfl⟩
        rw [← hm, ← hr] at HC
        rw [← hm] at g4 gl
        have HIE := Lib.hid hie
        clear hx gs hm hie hr
        rcases hnm : nameOk nm with _ | _
        · rw [hnm, if_pos rfl] at HIE
          have HE2 := Lib.hid (props_hit hj2 HR.out.bad (by rw [HIE.out]; decide))
          rw [HIE.out] at HE2
          have hne : nameE nm = 3 := by unfold nameE; rw [hnm]; rfl
          rw [hne] at HNM
          clear hnm hne HIE HR hpv HC
          go_wp2_with fail
          refine (HNM.out _).mono ?_
          rintro e5 w5 ⟨rfl, hw5⟩
          rw [hw5]
          clear hw5
          go_wp2_with fail
          go_ret
          exact ⟨ret_int HE2.out.symm, HBL.out.alloc hszw _⟩
        · rw [hnm, if_neg (by simp)] at HIE
          have hne : nameE nm = 0 := by unfold nameE; rw [hnm]; rfl
          rw [hne] at HNM
          clear hnm hne
          rcases Nat.eq_zero_or_pos j with hj0 | hj0
          · have p3 : ¬ (0 : Int) < j := by omega
            have p3n : ¬ 0 < j := by omega
            rw [show (match prevOf l j with | none => false | some q => leB nm q) = false from by rw [hj0]; rfl, if_neg (by simp)] at HIE
            clear hpv hj0
            by_cases hk0 : kx = 0
            · rw [if_pos hk0] at HIE
              have HE2 := Lib.hid (props_hit hj2 HR.out.bad (by rw [HIE.out]; decide))
              rw [HIE.out] at HE2
              subst hk0
              clear HIE HR HC
              go_wp2_with fail
              refine (HNM.out _).mono ?_
              rintro e5 w5 ⟨rfl, hw5⟩
              rw [hw5]
              clear hw5
              go_wp2_with fail
              go_quiet (fail)
              go_wp2_with fail
              go_ret
              exact ⟨ret_int HE2.out.symm, below_drewN (HBL.out.alloc hszw _) _⟩
            · rw [if_neg hk0] at HIE
              have q0 : (kx == 0) = false := by simpa using hk0
              by_cases hr0 : r = 0
              · have HNX := Lib.hid (props_at hj2 HR.out.bad (by rw [HIE.out]; exact hr0))
                subst hr0
                clear hk0 HIE HR
                go_wp2_with fail
                refine (HNM.out _).mono ?_
                rintro e5 w5 ⟨rfl, hw5⟩
                rw [hw5]
                clear hw5
                go_wp2_with fail
                go_quiet (fail)
                go_wp2_with fail
                refine (HC.out _ (below_drewN (HBL.out.alloc hszw _) _)).mono ?_
                rintro e6 w6 ⟨rfl, hb6⟩
                have HB6 := Lib.hid ((below_drewN (HBL.out.alloc hszw _) _).trans (hb6.mono (by simp; omega)))
                clear hb6
                go_wp2_with fail
                go_roundw
                case rel => exact ⟨j + 1, by go_num, Lib.hid ⟨hj2, HNX.out, HB6.out⟩⟩
                case measure => simp [intOf]; omega
              · have HE2 := Lib.hid (props_hit hj2 HR.out.bad (by rw [HIE.out]; exact hr0))
                rw [HIE.out] at HE2
                have qr : (r == 0) = false := by simpa using hr0
                clear hk0 hr0 HIE HR
                go_wp2_with fail
                refine (HNM.out _).mono ?_
                rintro e5 w5 ⟨rfl, hw5⟩
                rw [hw5]
                clear hw5
                go_wp2_with fail
                go_quiet (fail)
                go_wp2_with fail
                refine (HC.out _ (below_drewN (HBL.out.alloc hszw _) _)).mono ?_
                rintro e6 w6 ⟨rfl, hb6⟩
                have HB6 := Lib.hid ((below_drewN (HBL.out.alloc hszw _) _).trans (hb6.mono (by simp; omega)))
                clear hb6
                go_wp2_with fail
                go_ret
                exact ⟨ret_int HE2.out.symm, HB6.out⟩
          · obtain ⟨jp, hjp⟩ : ∃ jp, j = jp + 1 := ⟨j - 1, by omega⟩
            obtain ⟨q, hq, gq⟩ := hpv jp hjp
            have gqa := fun o => ((HBL.out.alloc hszw o).cell (p := ⟨b, off + jp * 6, none⟩) hlt).trans gq
            clear gq
            have p3 : (0 : Int) < j := by omega
            have p3n : 0 < j := hj0
            have p4 : (jp : Int) < n := by omega
            have p5 : (j : Int) - 1 = jp := by omega
            have p7 : IntKind.i64.wrap (jp : Int) = jp := IntWalk.i64_in _ (by omega)
            have p8 : jp < n := by omega
            rw [show (match prevOf l j with | none => false | some q => leB nm q) = leB nm q from by rw [hq]] at HIE
            clear hpv hj0 hq hjp
            rcases hle : leB nm q with _ | _
            · rw [hle, if_neg (by simp)] at HIE
              have hop : ∀ W, (binOp .leq 9 (.string nm) (.string q)).run Tryd.prog W = .ok (.bool false) W := fun W => by rw [leq_str, hle]
              clear hle
              by_cases hk0 : kx = 0
              · rw [if_pos hk0] at HIE
                have HE2 := Lib.hid (props_hit hj2 HR.out.bad (by rw [HIE.out]; decide))
                rw [HIE.out] at HE2
                subst hk0
                clear HIE HR HC
                go_wp2_with fail
                refine (HNM.out _).mono ?_
                rintro e5 w5 ⟨rfl, hw5⟩
                rw [hw5]
                clear hw5
                go_wp2_with fail
                go_quiet (fail)
                go_wp2_with fail
                go_ret
                exact ⟨ret_int HE2.out.symm, below_drewN (HBL.out.alloc hszw _) _⟩
              · rw [if_neg hk0] at HIE
                have q0 : (kx == 0) = false := by simpa using hk0
                by_cases hr0 : r = 0
                · have HNX := Lib.hid (props_at hj2 HR.out.bad (by rw [HIE.out]; exact hr0))
                  subst hr0
                  clear hk0 HIE HR
                  go_wp2_with fail
                  refine (HNM.out _).mono ?_
                  rintro e5 w5 ⟨rfl, hw5⟩
                  rw [hw5]
                  clear hw5
                  go_wp2_with fail
                  go_quiet (fail)
                  go_wp2_with fail
                  refine (HC.out _ (below_drewN (HBL.out.alloc hszw _) _)).mono ?_
                  rintro e6 w6 ⟨rfl, hb6⟩
                  have HB6 := Lib.hid ((below_drewN (HBL.out.alloc hszw _) _).trans (hb6.mono (by simp; omega)))
                  clear hb6
                  go_wp2_with fail
                  go_roundw
                  case rel => exact ⟨j + 1, by go_num, Lib.hid ⟨hj2, HNX.out, HB6.out⟩⟩
                  case measure => simp [intOf]; omega
                · have HE2 := Lib.hid (props_hit hj2 HR.out.bad (by rw [HIE.out]; exact hr0))
                  rw [HIE.out] at HE2
                  have qr : (r == 0) = false := by simpa using hr0
                  clear hk0 hr0 HIE HR
                  go_wp2_with fail
                  refine (HNM.out _).mono ?_
                  rintro e5 w5 ⟨rfl, hw5⟩
                  rw [hw5]
                  clear hw5
                  go_wp2_with fail
                  go_quiet (fail)
                  go_wp2_with fail
                  refine (HC.out _ (below_drewN (HBL.out.alloc hszw _) _)).mono ?_
                  rintro e6 w6 ⟨rfl, hb6⟩
                  have HB6 := Lib.hid ((below_drewN (HBL.out.alloc hszw _) _).trans (hb6.mono (by simp; omega)))
                  clear hb6
                  go_wp2_with fail
                  go_ret
                  exact ⟨ret_int HE2.out.symm, HB6.out⟩
            · rw [hle, if_pos rfl] at HIE
              have hop : ∀ W, (binOp .leq 9 (.string nm) (.string q)).run Tryd.prog W = .ok (.bool true) W := fun W => by rw [leq_str, hle]
              clear hle
              have HE2 := Lib.hid (props_hit hj2 HR.out.bad (by rw [HIE.out]; decide))
              rw [HIE.out] at HE2
              clear HIE HR HC
              go_wp2_with fail
              refine (HNM.out _).mono ?_
              rintro e5 w5 ⟨rfl, hw5⟩
              rw [hw5]
              clear hw5
              go_wp2_with fail
              go_quiet (fail)
              go_wp2_with fail
              go_ret
              exact ⟨ret_int HE2.out.symm, below_drewN (HBL.out.alloc hszw _) _⟩
      · have p2 : ¬ (j : Int) < n := by omega
        have HEND := Lib.hid (props_end (by rw [← HN.out]; omega) HR.out.bad)
        have HBL := Lib.hid HR.out.bel
        clear HR
        go_wp2_with fail
        go_ret
        exact ⟨ret_int HEND.out.symm, HBL.out⟩
end Go.Proofs.YtfpiannnggkdiaaDoor
namespace Go.Proofs.YtfpiannnggkdiaaDoor
open Go.RowKit Go.Shelf

end Go.Proofs.YtfpiannnggkdiaaDoor
