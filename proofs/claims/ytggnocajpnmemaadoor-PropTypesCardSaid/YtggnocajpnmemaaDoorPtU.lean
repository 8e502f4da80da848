/- Properties: CheckTypes. -/
import Derived.Test.YtggnocajpnmemaaDoorPtT
import Derived.StillTailTactics
namespace Go.Proofs.YtggnocajpnmemaaDoor
open Go.RowKit Go.Shelf

def itemT (d : List TV) (t : TV) : Int := if nameOk t.nm = false then 3 else if hasT d t.nm = true then 6 else typeE t.kind t.cs t.least t.most
def typesFrom : List TV → List TV → Int
  | _, [] => 0
  | d, t :: r => if itemT d t = 0 then typesFrom (d ++ [t]) r else itemT d t
def typesE (l : List TV) : Int := if 40 < l.length then 4 else typesFrom [] l
structure TlRow (l : List TV) (w : World) (j : Nat) (wx : World) : Prop where
  le : j ≤ l.length
  bad : typesFrom [] l = typesFrom (l.take j) (l.drop j)
  bel : Below w.heap.size w wx
theorem types_at {l : List TV} {j : Nat} (hj : j < l.length) (h : typesFrom [] l = typesFrom (l.take j) (l.drop j)) (h0 : itemT (l.take j) l[j] = 0) : typesFrom [] l = typesFrom (l.take (j + 1)) (l.drop (j + 1)) := by
  rw [h, List.drop_eq_getElem_cons hj, typesFrom, if_pos h0, List.take_append_getElem hj]
theorem types_hit {l : List TV} {j : Nat} (hj : j < l.length) (h : typesFrom [] l = typesFrom (l.take j) (l.drop j)) (h0 : itemT (l.take j) l[j] ≠ 0) : typesFrom [] l = itemT (l.take j) l[j] := by
  rw [h, List.drop_eq_getElem_cons hj, typesFrom, if_neg h0]
theorem types_end {l : List TV} {j : Nat} (hj : j = l.length) (h : typesFrom [] l = typesFrom (l.take j) (l.drop j)) : typesFrom [] l = 0 := by
  rw [h, hj, List.drop_length]; rfl
theorem below_drew {B : Nat} {w W : World} (h : Below B w W) : Below B w W.drew := ⟨h.os, h.tape, h.output, h.size, h.block⟩
theorem below_undrew {B : Nat} {W w' : World} (h : Below B W.drew w') : Below B W w' := ⟨h.os, h.tape, h.output, h.size, h.block⟩

set_option maxRecDepth 100000 in
set_option maxHeartbeats 8000000 in
theorem checkTypes_any (l : List TV) (A : Option Addr) (c : Nat) (w : World) (hl : TySl w w.heap.size l (.slice A l.length c)) :
    Calls Tryd.prog 7 #[.slice A l.length c] w (Quiet w (.int .i64 (typesE l))) := by
  have hnc : l.length ≤ 140737488355328 ∧ l.length ≤ c := by obtain ⟨_, _, e, h1, h2, _⟩ := hl; injection e with _ _ e; subst e; exact ⟨h1, h2⟩
  obtain ⟨hn, hcap⟩ := hnc
  have HSL := Lib.hid hl
  have hpe : typesE l = if 40 < l.length then 4 else typesFrom [] l := rfl
  rw [hpe]
  clear hpe
  obtain ⟨n, hnn⟩ : ∃ n, n = l.length := ⟨_, rfl⟩
  rw [← hnn] at hn hcap HSL ⊢
  have HN := Lib.hid hnn
  clear hl hnn
  by_cases h40 : 40 < n
  · rw [if_pos h40]
    have p1 : (40 : Int) < n := by omega
    clear h40
    go_enter Tryd.func7, Tryd.ntmps7
    go_wp2_with fail
    go_ret
    exact ⟨rfl, Below.refl _ _⟩
  · rw [if_neg h40]
    have p1 : ¬ (40 : Int) < n := by omega
    have hn20 : n ≤ 40 := by omega
    clear h40 hn
    go_enter Tryd.func7, Tryd.ntmps7
    go_wp2_with fail
    go_loopw [12] (fun iv wx => ∃ j : Nat, iv = .int .i64 j ∧ Hid (TlRow l w j wx)) (fun iv _ => n - (intOf iv).toNat)
    case atStart => exact ⟨0, rfl, Lib.hid ⟨Nat.zero_le _, rfl, Below.refl _ _⟩⟩
    case round =>
      obtain ⟨j, rfl, HR⟩ := hrel
      have hjl : j ≤ n := by have := HR.out.le; rw [HN.out]; exact this
      by_cases hj : j < n
      · have hj2 : j < l.length := by rw [← HN.out]; exact hj
        have p2 : (j : Int) < n := by omega
        have p4 : (j : Int) ≤ c := by omega
        have p5 : j ≤ c := by omega
        have hlen : (l.take j).length = j := by rw [List.length_take]; omega
        have hst := TySl.take (by rw [← HN.out]; exact HSL.out) (Nat.le_of_lt hj2)
        obtain ⟨b, off, nm, kd, nd, cs, le, mo, Ac, cc, rfl, hx, hlt, gn, g1, g2, g3, g4, g5, hnz, gs⟩ := type_item (by rw [← HN.out]; exact HSL.out) hj2
        have hbel := HR.out.bel
        replace gn := (hbel.cell (p := ⟨b, off + j * 6, none⟩) hlt).trans gn
        replace g1 := (hbel.cell (p := ⟨b, off + j * 6 + 1, none⟩) hlt).trans g1
        replace g2 := (hbel.cell (p := ⟨b, off + j * 6 + 2, none⟩) hlt).trans g2
        replace g3 := (hbel.cell (p := ⟨b, off + j * 6 + 3, none⟩) hlt).trans g3
        replace g4 := (hbel.cell (p := ⟨b, off + j * 6 + 4, none⟩) hlt).trans g4
        replace g5 := (hbel.cell (p := ⟨b, off + j * 6 + 5, none⟩) hlt).trans g5
        have HBL := Lib.hid hbel
        have hszw := HBL.out.size
        have HNM := Lib.hid (fun W => checkName_any nm W (by omega))
        have HC1 := Lib.hid (fun W (hW : Below w.heap.size w W) => hasType_any (l.take j) nm (some ⟨b, off, none⟩) c W ((hst.below hW (Nat.le_refl _)).up hW.size))
        rw [hlen] at HC1
        have HC2 := Lib.hid (fun W (hW : Below w.heap.size w W) => checkType_any nm kd nd cs le mo Ac cc W ((gs.below hW (Nat.le_refl _)).up hW.size))
        obtain ⟨r, hr⟩ : ∃ r, r = typeE kd cs le mo := ⟨_, rfl⟩
        have hie : itemT (l.take j) l[j] = if nameOk nm = false then 3 else if hasT (l.take j) nm = true then 6 else r := by rw [hx, hr]; rfl
        obtain ⟨m, hm⟩ : ∃ m, m = cs.length := ⟨_, rfl⟩
        rw [← hm, ← hr] at HC2
        rw [← hm] at g3
        have HIE := Lib.hid hie
        clear hx gs hm hie hr hst hlen hbel
        rcases hnm : nameOk nm with _ | _
        · rw [hnm, if_pos rfl] at HIE
          have HE2 := Lib.hid (types_hit hj2 HR.out.bad (by rw [HIE.out]; decide))
          rw [HIE.out] at HE2
          have hne : nameE nm = 3 := by unfold nameE; rw [hnm]; rfl
          rw [hne] at HNM
          clear hnm hne HIE HR HC1 HC2
          go_wp2_with fail
          refine (HNM.out _).mono ?_
          rintro e5 w5 ⟨rfl, hw5⟩
          rw [hw5]
          clear hw5
          go_wp2_with fail
          go_ret
          exact ⟨ret_int HE2.out.symm, HBL.out.alloc hszw _⟩
        · rw [hnm, if_neg (by simp)] at HIE
          have hne : nameE nm = 0 := by unfold nameE; rw [hnm]; rfl
          rw [hne] at HNM
          clear hnm hne
          rcases hh : hasT (l.take j) nm with _ | _
          · rw [hh, if_neg (by simp)] at HIE
            rw [hh] at HC1
            clear hh
            by_cases hr0 : r = 0
            · have HNX := Lib.hid (types_at hj2 HR.out.bad (by rw [HIE.out]; exact hr0))
              subst hr0
              clear HIE HR
              go_wp2_with fail
              refine (HNM.out _).mono ?_
              rintro e5 w5 ⟨rfl, hw5⟩
              rw [hw5]
              clear hw5
              go_wp2_with fail
              first
                | (go_region_with (go_at_call 15; refine (HC1.out _ (below_drew (HBL.out.alloc hszw _))).mono ?_; rintro e6 w6 ⟨rfl, hb6⟩; obtain ⟨hb6, hblk⟩ := keep_box (below_undrew hb6)))
                | fail "REGION"
              have HB6 := Lib.hid (HBL.out.trans (hb6.mono hszw))
              have c0 := cell_of_row w6 _ 0 _ _ (0, 0) hblk
              have c1 := cell_of_row w6 _ 1 _ _ (0, 0) hblk
              have c2 := cell_of_row w6 _ 2 _ _ (0, 0) hblk
              have c3 := cell_of_row w6 _ 3 _ _ (0, 0) hblk
              have c4 := cell_of_row w6 _ 4 _ _ (0, 0) hblk
              have c5 := cell_of_row w6 _ 5 _ _ (0, 0) hblk
              clear hb6 hblk
              go_wp2_with fail
              refine (HC2.out _ HB6.out).mono ?_
              rintro e7 w7 ⟨rfl, hb7⟩
              have HB7 := Lib.hid (HB6.out.trans (hb7.mono HB6.out.size))
              clear hb7
              go_wp2_with fail
              go_roundw
              case rel => exact ⟨j + 1, by go_num, Lib.hid ⟨hj2, HNX.out, HB7.out⟩⟩
              case measure => simp [intOf]; omega
            · have HE2 := Lib.hid (types_hit hj2 HR.out.bad (by rw [HIE.out]; exact hr0))
              rw [HIE.out] at HE2
              have qr : (r == 0) = false := by simpa using hr0
              clear hr0 HIE HR
              go_wp2_with fail
              refine (HNM.out _).mono ?_
              rintro e5 w5 ⟨rfl, hw5⟩
              rw [hw5]
              clear hw5
              go_wp2_with fail
              first
                | (go_region_with (go_at_call 15; refine (HC1.out _ (below_drew (HBL.out.alloc hszw _))).mono ?_; rintro e6 w6 ⟨rfl, hb6⟩; obtain ⟨hb6, hblk⟩ := keep_box (below_undrew hb6)))
                | fail "REGION"
              have HB6 := Lib.hid (HBL.out.trans (hb6.mono hszw))
              have c0 := cell_of_row w6 _ 0 _ _ (0, 0) hblk
              have c1 := cell_of_row w6 _ 1 _ _ (0, 0) hblk
              have c2 := cell_of_row w6 _ 2 _ _ (0, 0) hblk
              have c3 := cell_of_row w6 _ 3 _ _ (0, 0) hblk
              have c4 := cell_of_row w6 _ 4 _ _ (0, 0) hblk
              have c5 := cell_of_row w6 _ 5 _ _ (0, 0) hblk
              clear hb6 hblk
              go_wp2_with fail
              refine (HC2.out _ HB6.out).mono ?_
              rintro e7 w7 ⟨rfl, hb7⟩
              have HB7 := Lib.hid (HB6.out.trans (hb7.mono HB6.out.size))
              clear hb7
              go_wp2_with fail
              go_ret
              exact ⟨ret_int HE2.out.symm, HB7.out⟩
          · rw [hh, if_pos rfl] at HIE
            have HE2 := Lib.hid (types_hit hj2 HR.out.bad (by rw [HIE.out]; decide))
            rw [HIE.out] at HE2
            rw [hh] at HC1
            clear hh HIE HR
            go_wp2_with fail
            refine (HNM.out _).mono ?_
            rintro e5 w5 ⟨rfl, hw5⟩
            rw [hw5]
            clear hw5
            go_wp2_with fail
            first
              | (go_region_with (go_at_call 15; refine (HC1.out _ (below_drew (HBL.out.alloc hszw _))).mono ?_; rintro e6 w6 ⟨rfl, hb6⟩; obtain ⟨hb6, hblk⟩ := keep_box (below_undrew hb6)))
              | fail "REGION"
            have HB6 := Lib.hid (HBL.out.trans (hb6.mono hszw))
            have c0 := cell_of_row w6 _ 0 _ _ (0, 0) hblk
            have c1 := cell_of_row w6 _ 1 _ _ (0, 0) hblk
            have c2 := cell_of_row w6 _ 2 _ _ (0, 0) hblk
            have c3 := cell_of_row w6 _ 3 _ _ (0, 0) hblk
            have c4 := cell_of_row w6 _ 4 _ _ (0, 0) hblk
            have c5 := cell_of_row w6 _ 5 _ _ (0, 0) hblk
            clear hb6 hblk
            go_wp2_with fail
            go_ret
            exact ⟨ret_int HE2.out.symm, HB6.out⟩
      · have p2 : ¬ (j : Int) < n := by omega
        have HEND := Lib.hid (types_end (by rw [← HN.out]; omega) HR.out.bad)
        have HBL := Lib.hid HR.out.bel
        clear HR
        go_wp2_with fail
        go_ret
        exact ⟨ret_int HEND.out.symm, HBL.out⟩
end Go.Proofs.YtggnocajpnmemaaDoor
