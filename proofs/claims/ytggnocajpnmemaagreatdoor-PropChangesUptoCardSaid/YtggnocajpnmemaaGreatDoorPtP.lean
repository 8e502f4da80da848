/- Properties: the reference's PropsFault. -/
import Derived.Test.YtggnocajpnmemaaGreatDoorPtO
import Derived.IntWalk
namespace Go.Proofs.YtggnocajpnmemaaGreatDoor
open Go.RowKit Go.Shelf

set_option maxRecDepth 100000 in
set_option maxHeartbeats 8000000 in
theorem propsFault_any (l : List PV) (A : Option Addr) (c : Nat) (w : World) (hl : PSl w w.heap.size l (.slice A l.length c)) :
    Calls Tryz.prog 16 #[.slice A l.length c] w (Quiet w (.int .i64 (propsE l))) := by
  have hn : l.length ≤ 1048576 := by obtain ⟨_, _, e, h1, _⟩ := hl; exact h1
  have HSL := Lib.hid hl
  have hpe : propsE l = if 20 < l.length then 4 else propsFrom none l := rfl
  rw [hpe]
  clear hpe
  obtain ⟨n, hnn⟩ : ∃ n, n = l.length := ⟨_, rfl⟩
  rw [← hnn] at hn HSL ⊢
  have HN := Lib.hid hnn
  clear hl hnn
  by_cases h20 : 20 < n
  · rw [if_pos h20]
    have p1 : (20 : Int) < n := by omega
    clear h20
    go_enter Tryz.func16, Tryz.ntmps16
    go_wp2_with fail
    go_ret
    exact ⟨rfl, Below.refl _ _⟩
  · rw [if_neg h20]
    have p1 : ¬ (20 : Int) < n := by omega
    have hn20 : n ≤ 20 := by omega
    clear h20 hn
    go_enter Tryz.func16, Tryz.ntmps16
    go_wp2_with fail
    go_loopw [11] (fun iv wx => ∃ j : Nat, iv = .int .i64 j ∧ Hid (PlRow l w j wx)) (fun iv _ => n - (intOf iv).toNat)
    case atStart => exact ⟨0, rfl, Lib.hid ⟨Nat.zero_le _, rfl, Below.refl _ _⟩⟩
    case round =>
      obtain ⟨j, rfl, HR⟩ := hrel
      have hjl : j ≤ n := by have := HR.out.le; rw [HN.out]; exact this
      by_cases hj : j < n
      · have hj2 : j < l.length := by rw [← HN.out]; exact hj
        have p2 : (j : Int) < n := by omega
        obtain ⟨b, off, nm, kx, ix, tx, sx, lx, Ax, cx, rfl, hx, hlt, gn, g0, g1, g2, g3, g4, hnz, gz, gl, gs, hpv⟩ := prop_item (by rw [← HN.out]; exact HSL.out) hj2
        replace gn := (HR.out.bel.cell (p := ⟨b, off + j * 6, none⟩) hlt).trans gn
        replace g0 := (HR.out.bel.cell (p := ⟨b, off + j * 6 + 1, none⟩) hlt).trans g0
        replace g1 := (HR.out.bel.cell (p := ⟨b, off + j * 6 + 2, none⟩) hlt).trans g1
        replace g2 := (HR.out.bel.cell (p := ⟨b, off + j * 6 + 3, none⟩) hlt).trans g2
        replace g3 := (HR.out.bel.cell (p := ⟨b, off + j * 6 + 4, none⟩) hlt).trans g3
        replace g4 := (HR.out.bel.cell (p := ⟨b, off + j * 6 + 5, none⟩) hlt).trans g4
        have HBL := Lib.hid HR.out.bel
        have hszw := HBL.out.size
        have HNM := Lib.hid (fun W => isName_any nm W (by omega))
        have HC := Lib.hid (fun W (hW : Below w.heap.size w W) => valueFault_any kx ix tx sx lx Ax cx W gz ((gs.below hW (Nat.le_refl _)).up hW.size))
        obtain ⟨r, hr⟩ : ∃ r, r = valueE (.mk kx ix tx sx lx) := ⟨_, rfl⟩
        have hie : itemP (prevOf l j) l[j] = if nameOk nm = false then 3 else if (match prevOf l j with | none => false | some q => leB nm q) = true then 5 else if kx = 0 then 10 else r := by rw [hx, hr]; rfl
        obtain ⟨m, hm⟩ : ∃ m, m = lx.length := ⟨_, rfl⟩
        rw [← hm, ← hr] at HC
        rw [← hm] at g4 gl
        have HIE := Lib.hid hie
        clear hx gs hm hie hr
        rcases hnm : nameOk nm with _ | _
        · rw [hnm, if_pos rfl] at HIE
          have HE2 := Lib.hid (props_hit hj2 HR.out.bad (by rw [HIE.out]; decide))
          rw [HIE.out] at HE2
          rw [hnm] at HNM
          clear hnm HIE HR hpv HC
          go_wp2_with fail
          refine (HNM.out _).mono ?_
          rintro e5 w5 ⟨rfl, hb5⟩
          have HB5 := Lib.hid ((HBL.out.alloc hszw _).trans (hb5.mono (by simp; omega)))
          clear hb5
          go_wp2_with fail
          go_ret
          exact ⟨ret_int HE2.out.symm, HB5.out⟩
        · rw [hnm, if_neg (by simp)] at HIE
          rw [hnm] at HNM
          clear hnm
          rcases Nat.eq_zero_or_pos j with hj0 | hj0
          · have p3 : ¬ (0 : Int) < j := by omega
            have p3n : ¬ 0 < j := by omega
            rw [show (match prevOf l j with | none => false | some q => leB nm q) = false from by rw [hj0]; rfl, if_neg (by simp)] at HIE
            clear hpv hj0
            by_cases hk0 : kx = 0
            · rw [if_pos hk0] at HIE
              have HE2 := Lib.hid (props_hit hj2 HR.out.bad (by rw [HIE.out]; decide))
              rw [HIE.out] at HE2
              subst hk0
              clear HIE HR HC
              go_wp2_with fail
              refine (HNM.out _).mono ?_
              rintro e5 w5 ⟨rfl, hb5⟩
              obtain ⟨hb3, hblk⟩ := keep_box hb5
              have HB5 := Lib.hid (HBL.out.trans (hb3.mono hszw))
              have c0 := cell_of_row w5 _ 0 _ _ (0, 0) hblk
              have c1 := cell_of_row w5 _ 1 _ _ (0, 0) hblk
              have c2 := cell_of_row w5 _ 2 _ _ (0, 0) hblk
              have c3 := cell_of_row w5 _ 3 _ _ (0, 0) hblk
              have c4 := cell_of_row w5 _ 4 _ _ (0, 0) hblk
              have c5 := cell_of_row w5 _ 5 _ _ (0, 0) hblk
              clear hb5 hb3 hblk
              go_wp2_with fail
              go_quiet (fail)
              go_wp2_with fail
              go_ret
              exact ⟨ret_int HE2.out.symm, below_drewN HB5.out _⟩
            · rw [if_neg hk0] at HIE
              have q0 : (kx == 0) = false := by simpa using hk0
              by_cases hr0 : r = 0
              · have HNX := Lib.hid (props_at hj2 HR.out.bad (by rw [HIE.out]; exact hr0))
                subst hr0
                clear hk0 HIE HR
                go_wp2_with fail
                refine (HNM.out _).mono ?_
                rintro e5 w5 ⟨rfl, hb5⟩
                obtain ⟨hb3, hblk⟩ := keep_box hb5
                have HB5 := Lib.hid (HBL.out.trans (hb3.mono hszw))
                have c0 := cell_of_row w5 _ 0 _ _ (0, 0) hblk
                have c1 := cell_of_row w5 _ 1 _ _ (0, 0) hblk
                have c2 := cell_of_row w5 _ 2 _ _ (0, 0) hblk
                have c3 := cell_of_row w5 _ 3 _ _ (0, 0) hblk
                have c4 := cell_of_row w5 _ 4 _ _ (0, 0) hblk
                have c5 := cell_of_row w5 _ 5 _ _ (0, 0) hblk
                clear hb5 hb3 hblk
                go_wp2_with fail
                go_quiet (fail)
                go_wp2_with fail
                refine (HC.out _ (below_drewN HB5.out _)).mono ?_
                rintro e6 w6 ⟨rfl, hb6⟩
                have HB6 := Lib.hid ((below_drewN HB5.out _).trans (hb6.mono HB5.out.size))
                clear hb6
                go_wp2_with fail
                go_roundw
                case rel => exact ⟨j + 1, by go_num, Lib.hid ⟨hj2, HNX.out, HB6.out⟩⟩
                case measure => simp [intOf]; omega
              · have HE2 := Lib.hid (props_hit hj2 HR.out.bad (by rw [HIE.out]; exact hr0))
                rw [HIE.out] at HE2
                have qr : (r == 0) = false := by simpa using hr0
                clear hk0 hr0 HIE HR
                go_wp2_with fail
                refine (HNM.out _).mono ?_
                rintro e5 w5 ⟨rfl, hb5⟩
                obtain ⟨hb3, hblk⟩ := keep_box hb5
                have HB5 := Lib.hid (HBL.out.trans (hb3.mono hszw))
                have c0 := cell_of_row w5 _ 0 _ _ (0, 0) hblk
                have c1 := cell_of_row w5 _ 1 _ _ (0, 0) hblk
                have c2 := cell_of_row w5 _ 2 _ _ (0, 0) hblk
                have c3 := cell_of_row w5 _ 3 _ _ (0, 0) hblk
                have c4 := cell_of_row w5 _ 4 _ _ (0, 0) hblk
                have c5 := cell_of_row w5 _ 5 _ _ (0, 0) hblk
                clear hb5 hb3 hblk
                go_wp2_with fail
                go_quiet (fail)
                go_wp2_with fail
                refine (HC.out _ (below_drewN HB5.out _)).mono ?_
                rintro e6 w6 ⟨rfl, hb6⟩
                have HB6 := Lib.hid ((below_drewN HB5.out _).trans (hb6.mono HB5.out.size))
                clear hb6
                go_wp2_with fail
                go_ret
                exact ⟨ret_int HE2.out.symm, HB6.out⟩
          · obtain ⟨jp, hjp⟩ : ∃ jp, j = jp + 1 := ⟨j - 1, by omega⟩
            obtain ⟨q, hq, gq⟩ := hpv jp hjp
            have HGQ := Lib.hid gq
            clear gq
            have p3 : (0 : Int) < j := by omega
            have p3n : 0 < j := hj0
            have p4 : (jp : Int) < n := by omega
            have p5 : (j : Int) - 1 = jp := by omega
            have p7 : IntKind.i64.wrap (jp : Int) = jp := IntWalk.i64_in _ (by omega)
            have p8 : jp < n := by omega
            rw [show (match prevOf l j with | none => false | some q => leB nm q) = leB nm q from by rw [hq]] at HIE
            clear hpv hj0 hq hjp
            rcases hle : leB nm q with _ | _
            · rw [hle, if_neg (by simp)] at HIE
              have hop : ∀ W, (binOp .leq 9 (.string nm) (.string q)).run Tryz.prog W = .ok (.bool false) W := fun W => by rw [leq_str, hle]
              clear hle
              by_cases hk0 : kx = 0
              · rw [if_pos hk0] at HIE
                have HE2 := Lib.hid (props_hit hj2 HR.out.bad (by rw [HIE.out]; decide))
                rw [HIE.out] at HE2
                subst hk0
                clear HIE HR HC
                go_wp2_with fail
                refine (HNM.out _).mono ?_
                rintro e5 w5 ⟨rfl, hb5⟩
                obtain ⟨hb3, hblk⟩ := keep_box hb5
                have HB5 := Lib.hid (HBL.out.trans (hb3.mono hszw))
                have gqa := (HB5.out.cell (p := ⟨b, off + jp * 6, none⟩) hlt).trans HGQ.out
                have c0 := cell_of_row w5 _ 0 _ _ (0, 0) hblk
                have c1 := cell_of_row w5 _ 1 _ _ (0, 0) hblk
                have c2 := cell_of_row w5 _ 2 _ _ (0, 0) hblk
                have c3 := cell_of_row w5 _ 3 _ _ (0, 0) hblk
                have c4 := cell_of_row w5 _ 4 _ _ (0, 0) hblk
                have c5 := cell_of_row w5 _ 5 _ _ (0, 0) hblk
                clear hb5 hb3 hblk
                go_wp2_with fail
                go_quiet (fail)
                go_wp2_with fail
                go_ret
                exact ⟨ret_int HE2.out.symm, below_drewN HB5.out _⟩
              · rw [if_neg hk0] at HIE
                have q0 : (kx == 0) = false := by simpa using hk0
                by_cases hr0 : r = 0
                · have HNX := Lib.hid (props_at hj2 HR.out.bad (by rw [HIE.out]; exact hr0))
                  subst hr0
                  clear hk0 HIE HR
                  go_wp2_with fail
                  refine (HNM.out _).mono ?_
                  rintro e5 w5 ⟨rfl, hb5⟩
                  obtain ⟨hb3, hblk⟩ := keep_box hb5
                  have HB5 := Lib.hid (HBL.out.trans (hb3.mono hszw))
                  have gqa := (HB5.out.cell (p := ⟨b, off + jp * 6, none⟩) hlt).trans HGQ.out
                  have c0 := cell_of_row w5 _ 0 _ _ (0, 0) hblk
                  have c1 := cell_of_row w5 _ 1 _ _ (0, 0) hblk
                  have c2 := cell_of_row w5 _ 2 _ _ (0, 0) hblk
                  have c3 := cell_of_row w5 _ 3 _ _ (0, 0) hblk
                  have c4 := cell_of_row w5 _ 4 _ _ (0, 0) hblk
                  have c5 := cell_of_row w5 _ 5 _ _ (0, 0) hblk
                  clear hb5 hb3 hblk
                  go_wp2_with fail
                  go_quiet (fail)
                  go_wp2_with fail
                  refine (HC.out _ (below_drewN HB5.out _)).mono ?_
                  rintro e6 w6 ⟨rfl, hb6⟩
                  have HB6 := Lib.hid ((below_drewN HB5.out _).trans (hb6.mono HB5.out.size))
                  clear hb6
                  go_wp2_with fail
                  go_roundw
                  case rel => exact ⟨j + 1, by go_num, Lib.hid ⟨hj2, HNX.out, HB6.out⟩⟩
                  case measure => simp [intOf]; omega
                · have HE2 := Lib.hid (props_hit hj2 HR.out.bad (by rw [HIE.out]; exact hr0))
                  rw [HIE.out] at HE2
                  have qr : (r == 0) = false := by simpa using hr0
                  clear hk0 hr0 HIE HR
                  go_wp2_with fail
                  refine (HNM.out _).mono ?_
                  rintro e5 w5 ⟨rfl, hb5⟩
                  obtain ⟨hb3, hblk⟩ := keep_box hb5
                  have HB5 := Lib.hid (HBL.out.trans (hb3.mono hszw))
                  have gqa := (HB5.out.cell (p := ⟨b, off + jp * 6, none⟩) hlt).trans HGQ.out
                  have c0 := cell_of_row w5 _ 0 _ _ (0, 0) hblk
                  have c1 := cell_of_row w5 _ 1 _ _ (0, 0) hblk
                  have c2 := cell_of_row w5 _ 2 _ _ (0, 0) hblk
                  have c3 := cell_of_row w5 _ 3 _ _ (0, 0) hblk
                  have c4 := cell_of_row w5 _ 4 _ _ (0, 0) hblk
                  have c5 := cell_of_row w5 _ 5 _ _ (0, 0) hblk
                  clear hb5 hb3 hblk
                  go_wp2_with fail
                  go_quiet (fail)
                  go_wp2_with fail
                  refine (HC.out _ (below_drewN HB5.out _)).mono ?_
                  rintro e6 w6 ⟨rfl, hb6⟩
                  have HB6 := Lib.hid ((below_drewN HB5.out _).trans (hb6.mono HB5.out.size))
                  clear hb6
                  go_wp2_with fail
                  go_ret
                  exact ⟨ret_int HE2.out.symm, HB6.out⟩
            · rw [hle, if_pos rfl] at HIE
              have hop : ∀ W, (binOp .leq 9 (.string nm) (.string q)).run Tryz.prog W = .ok (.bool true) W := fun W => by rw [leq_str, hle]
              clear hle
              have HE2 := Lib.hid (props_hit hj2 HR.out.bad (by rw [HIE.out]; decide))
              rw [HIE.out] at HE2
              clear HIE HR HC
              go_wp2_with fail
              refine (HNM.out _).mono ?_
              rintro e5 w5 ⟨rfl, hb5⟩
              obtain ⟨hb3, hblk⟩ := keep_box hb5
              have HB5 := Lib.hid (HBL.out.trans (hb3.mono hszw))
              have gqa := (HB5.out.cell (p := ⟨b, off + jp * 6, none⟩) hlt).trans HGQ.out
              have c0 := cell_of_row w5 _ 0 _ _ (0, 0) hblk
              have c1 := cell_of_row w5 _ 1 _ _ (0, 0) hblk
              have c2 := cell_of_row w5 _ 2 _ _ (0, 0) hblk
              have c3 := cell_of_row w5 _ 3 _ _ (0, 0) hblk
              have c4 := cell_of_row w5 _ 4 _ _ (0, 0) hblk
              have c5 := cell_of_row w5 _ 5 _ _ (0, 0) hblk
              clear hb5 hb3 hblk
              go_wp2_with fail
              go_quiet (fail)
              go_wp2_with fail
              go_ret
              exact ⟨ret_int HE2.out.symm, below_drewN HB5.out _⟩
      · have p2 : ¬ (j : Int) < n := by omega
        have HEND := Lib.hid (props_end (by rw [← HN.out]; omega) HR.out.bad)
        have HBL := Lib.hid HR.out.bel
        clear HR
        go_wp2_with fail
        go_ret
        exact ⟨ret_int HEND.out.symm, HBL.out⟩
end Go.Proofs.YtggnocajpnmemaaGreatDoor
